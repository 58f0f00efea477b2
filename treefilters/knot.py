"""Counts the trees over one piece, where rules may stand beneath one another over that same piece.

How many trees a rule has is told by terms: tuples of a factor above 0 and the places, over the same
piece, whose numbers of trees it is multiplied by. The rule's number is the sum of its terms.
"""

from treefilters.counts import ENDLESS, capped


def is_living(term, living):
    return all([place in living for place in term[1]])


class Knot:
    """The terms of all rules over one piece, and what comes of them for each rule and each place."""

    def __init__(self, terms, places):
        self.terms = terms
        self.places = places
        self.rule_sums = [0] * len(terms)
        self.place_sums = [0] * len(places.members)
        self.unsettled = [0] * len(places.members)

    def solve(self):
        self.drop_dead_terms()
        waiting = [r for r, terms in enumerate(self.terms) if terms]
        for r in waiting:
            for place in self.places.holders[r]:
                self.unsettled[place] = self.unsettled[place] + 1
        # What never settles leads, over the same piece, to a rule that has itself beneath it in some tree.
        for r in self.settle_in_rounds(waiting):
            self.settle(r, ENDLESS)

    def drop_dead_terms(self):
        living = self.living_places()
        kept = []
        for terms in self.terms:
            kept.append([term for term in terms if is_living(term, living)])
        self.terms = kept

    def living_places(self):
        """The places that have a tree at all, found in finitely many steps from terms without places."""
        living = {}
        waiting = [r for r, terms in enumerate(self.terms) if terms]
        grown = True
        while grown:
            dead = []
            for r in waiting:
                if any([is_living(term, living) for term in self.terms[r]]):
                    for place in self.places.holders[r]:
                        living[place] = True
                else:
                    dead.append(r)
            grown = len(dead) < len(waiting)
            waiting = dead
        return living

    def settle_in_rounds(self, waiting):
        """Settles each rule once all places that it needs are settled; gives back the rules that are left."""
        grown = True
        while grown:
            left = []
            for r in waiting:
                if self.is_ready(r):
                    self.settle(r, self.total(r))
                else:
                    left.append(r)
            grown = len(left) < len(waiting)
            waiting = left
        return waiting

    def is_ready(self, r):
        for term in self.terms[r]:
            if any([self.unsettled[place] > 0 for place in term[1]]):
                return False
        return True

    def total(self, r):
        total = 0
        for term in self.terms[r]:
            product = term[0]
            for place in term[1]:
                product = capped(product * self.place_sums[place])
            total = capped(total + product)
        return total

    def settle(self, r, number):
        self.rule_sums[r] = number
        for place in self.places.holders[r]:
            self.unsettled[place] = self.unsettled[place] - 1
            self.place_sums[place] = capped(self.place_sums[place] + number)
