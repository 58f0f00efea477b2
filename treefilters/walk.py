"""Follows a list of nodes through a grammar and a text, to tell whether it is a tree and what stands in it."""

from treefilters.grammars import NONTERMINAL, RANGE

# Stands among symbols where a node's piece must have come to its end.
END = 2


class Walk:
    """What is met of a tree, node by node, and what must still come.

    spots: a dict whose keys a, i, j are the nonterminals and the pieces of the nodes met
    links: a dict whose keys r, m, s are the rules of the nodes met, each behind its parent's rule and symbol
    due: symbols and ends that must still come, the next one last; a nonterminal's with its rule and number
    """

    def __init__(self, grammar, text, a, i, j):
        self.rules = grammar.rules
        self.text = text
        self.at = i
        self.spots = {}
        self.links = {}
        # The root is no child, so its link is one that no filter names.
        self.due = [(END, j), (NONTERMINAL, a, None, None)]

    def is_tree(self, numbers):
        """Whether these numbers, three for each node, are the nodes of a tree."""
        for k in range(0, len(numbers), 3):
            if not self.meet(numbers[k], numbers[k + 1], numbers[k + 2]):
                return False
        return self.passes_bytes() and not self.due

    def meet(self, r, i, j):
        """Takes the next node; False if it isn't one that may stand here."""
        if not self.passes_bytes() or not self.due:
            return False
        child = self.due.pop()
        if r >= len(self.rules) or self.rules[r].nonterminal != child[1] or i != self.at:
            return False
        self.spots[(child[1], i, j)] = True
        self.links[(child[2], child[3], r)] = True
        # That the piece ends at j shows only when all that stands beneath the node is met.
        self.due.append((END, j))
        symbols = self.rules[r].symbols
        for m in range(len(symbols) - 1, -1, -1):
            self.due.append(symbols[m] + (r, m))
        return True

    def passes_bytes(self):
        """Goes on to the next nonterminal that is due; False if a range or an end doesn't fit the text."""
        while self.due and self.due[-1][0] != NONTERMINAL:
            symbol = self.due.pop()
            if symbol[0] == END and symbol[1] != self.at:
                return False
            if symbol[0] == RANGE:
                if self.at == len(self.text) or not symbol[1] <= self.text[self.at] <= symbol[2]:
                    return False
                self.at = self.at + 1
        return True

    def has_spot(self, a, i, j):
        return (a, i, j) in self.spots

    def has_link(self, r, m, s):
        return (r, m, s) in self.links
