"""The refusals: each is answered as its number alone, and the object stays as it was."""


class Refusal(Exception):
    """What keeps a call from its answer."""

    def __init__(self, number):
        self.number = number


class BadNumber(Refusal):
    """A number of a list is below 0, or is no byte where bytes are asked for."""

    def __init__(self):
        Refusal.__init__(self, -1)


class BadRow(Refusal):
    """A row of numbers is no grammar row, or no filter row of the held grammar."""

    def __init__(self):
        Refusal.__init__(self, -2)


class LongText(Refusal):
    """A text has too many bytes."""

    def __init__(self):
        Refusal.__init__(self, -3)


class NoNonterminal(Refusal):
    """The held grammar has no such nonterminal."""

    def __init__(self):
        Refusal.__init__(self, -4)


class NoPiece(Refusal):
    """The held text has no such piece."""

    def __init__(self):
        Refusal.__init__(self, -5)


class EndlessTrees(Refusal):
    """Infinitely many trees pass, so they have no order."""

    def __init__(self):
        Refusal.__init__(self, -6)


class NoTree(Refusal):
    """Fewer trees pass than the number asked for."""

    def __init__(self):
        Refusal.__init__(self, -7)


class LargeTree(Refusal):
    """The tree has more nodes than are told."""

    def __init__(self):
        Refusal.__init__(self, -8)


class BadNodes(Refusal):
    """A list doesn't have three numbers for each node, or has too many nodes."""

    def __init__(self):
        Refusal.__init__(self, -9)


class NoFilter(Refusal):
    """Fewer filters are held than the number asked for."""

    def __init__(self):
        Refusal.__init__(self, -10)
