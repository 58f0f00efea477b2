"""The places: nonterminals with the rules that are forbidden to them."""

from treefilters.grammars import NONTERMINAL
from treefilters.sieves import FORBIDDEN_CHILD


def forbidden_children(filters):
    """For each r, m that a filter names, the rules forbidden there."""
    forbidden = {}
    for sieve in filters:
        if sieve[0] == FORBIDDEN_CHILD:
            forbidden.setdefault((sieve[1], sieve[2]), []).append(sieve[3])
    return forbidden


class Places:
    """The places of a grammar with filters.

    listed: each place in order, a tuple of its nonterminal and the tuple of the rules forbidden to it
    of_symbols: for each rule and each of its symbols the place's number, None for a range
    members: for each place the rules that its trees may have at the root, ascending
    holders: for each rule the places that it is a member of
    """

    def __init__(self, grammar, filters):
        self.listed = [(a, ()) for a in range(grammar.nonterminals)]
        self.numbers_of = {}
        for number, place in enumerate(self.listed):
            self.numbers_of[place] = number
        forbidden = forbidden_children(filters)
        self.of_symbols = []
        for r, rule in enumerate(grammar.rules):
            self.of_symbols.append(self.places_of_rule(r, rule, forbidden))
        self.members = []
        self.holders = [[] for rule in grammar.rules]
        for number in range(len(self.listed)):
            self.add_members(number, grammar.rules)

    def places_of_rule(self, r, rule, forbidden):
        found = []
        for m, symbol in enumerate(rule.symbols):
            number = None
            if symbol[0] == NONTERMINAL:
                rules = tuple(sorted(set(forbidden.get((r, m), []))))
                number = self.number_of((symbol[1], rules))
            found.append(number)
        return found

    def number_of(self, place):
        """The place's number; a place that isn't there yet becomes the last one."""
        if place not in self.numbers_of:
            self.numbers_of[place] = len(self.listed)
            self.listed.append(place)
        return self.numbers_of[place]

    def add_members(self, number, rules):
        place = self.listed[number]
        members = [r for r, rule in enumerate(rules) if rule.nonterminal == place[0] and r not in place[1]]
        self.members.append(members)
        for r in members:
            self.holders[r].append(number)
