"""A row of numbers that is read from its beginning, number by number."""

from treefilters.refusals import BadRow


class Row:
    """The numbers, and how many of them are read."""

    def __init__(self, numbers):
        self.numbers = numbers
        self.at = 0

    def ended(self):
        return self.at >= len(self.numbers)

    def take(self):
        """The next number."""
        if self.ended():
            raise BadRow()
        self.at = self.at + 1
        return self.numbers[self.at - 1]

    def take_between(self, low, high):
        """The next number, which must be from low to high."""
        number = self.take()
        if number < low or number > high:
            raise BadRow()
        return number

    def take_list(self):
        """The list whose length stands before it, as a list of its own."""
        length = self.take()
        start = self.at
        self.at = start + length
        return self.numbers[start:self.at]

    def finish(self):
        """Nothing may be left of the row."""
        if not self.ended():
            raise BadRow()
