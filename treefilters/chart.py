"""The chart: how many passing trees there are over each piece of a text."""

from treefilters.counts import capped, sum_of_products
from treefilters.knot import Knot
from treefilters.places import Places
from treefilters.sieves import banned_nodes


def square(size):
    return [[0] * size for k in range(size)]


def squares(how_many, size):
    return [square(size) for k in range(how_many)]


def first_rests(rule, size):
    """A rule's rests where only that of the last symbol is filled: no symbols, which cover no bytes."""
    rests = squares(len(rule.symbols), size)
    if rests:
        for i in range(size):
            rests[-1][i][i] = 1
    return rests


class Chart:
    """Numbers of passing trees, filled piece by piece, the shorter pieces first.

    place_trees: for each place, i and j the trees of the place over the piece from i to j
    rule_trees: for each rule, i and j those that have this rule at the root
    rests: for each rule r, symbol number m, j and i (in this order, so that a sum over where a piece is
    parted walks plain rows) in how many ways the symbols behind number m cover the piece from i to j
    """

    def __init__(self, grammar, text, filters):
        self.rules = grammar.rules
        self.text = text
        self.places = Places(grammar, filters)
        self.banned = banned_nodes(text, filters)
        size = len(text) + 1
        self.place_trees = squares(len(self.places.listed), size)
        self.rule_trees = squares(len(self.rules), size)
        self.rests = [first_rests(rule, size) for rule in self.rules]
        for length in range(size):
            for i in range(size - length):
                self.fill(i, i + length)

    def fill(self, i, j):
        knot = Knot([self.terms_of(r, i, j) for r in range(len(self.rules))], self.places)
        knot.solve()
        for place, number in enumerate(knot.place_sums):
            self.place_trees[place][i][j] = number
        for r, number in enumerate(knot.rule_sums):
            self.rule_trees[r][i][j] = number
            self.fill_rests(r, i, j)

    def terms_of(self, r, i, j):
        """The terms of the rule, as treefilters.knot asks for them."""
        if (self.rules[r].nonterminal, i, j) in self.banned:
            return []
        if i == j:
            return self.terms_without_bytes(r)
        return self.terms_with_bytes(r, i, j)

    def terms_without_bytes(self, r):
        places = self.places.of_symbols[r]
        if None in places:
            return []
        return [(1, tuple(places))]

    def terms_with_bytes(self, r, i, j):
        terms = []
        # In how many ways the symbols so far cover the piece without bytes at i.
        before = 1
        for m, place in enumerate(self.places.of_symbols[r]):
            rest = self.rests[r][m][j]
            if place is None:
                terms.append((capped(before * self.ways_of_range(r, m, i, j)), ()))
                before = 0
            else:
                parted = sum_of_products(self.place_trees[place][i][i + 1:j], rest[i + 1:j])
                terms.append((capped(before * parted), ()))
                terms.append((capped(before * rest[j]), (place,)))
                before = capped(before * self.place_trees[place][i][i])
            if before == 0:
                break
        return [term for term in terms if term[0] > 0]

    def fill_rests(self, r, i, j):
        for m in range(len(self.rules[r].symbols) - 1, 0, -1):
            self.rests[r][m - 1][j][i] = self.ways(r, m, i, j)

    def ways(self, r, m, i, j):
        """In how many ways the symbols from number m on cover the piece."""
        place = self.places.of_symbols[r][m]
        if place is None:
            return self.ways_of_range(r, m, i, j)
        return sum_of_products(self.place_trees[place][i][i:j + 1], self.rests[r][m][j][i:j + 1])

    def ways_of_range(self, r, m, i, j):
        symbol = self.rules[r].symbols[m]
        if i < j and symbol[1] <= self.text[i] <= symbol[2]:
            return self.rests[r][m][j][i + 1]
        return 0


def first_ambiguous(chart, nonterminals):
    """The nonterminal, from and to of the shortest piece with two trees or more; None if there is none."""
    size = len(chart.text) + 1
    for length in range(size):
        for i in range(size - length):
            for a in range(nonterminals):
                if chart.place_trees[a][i][i + length] > 1:
                    return [a, i, i + length]
    return None
