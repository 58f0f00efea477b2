"""Finds what stands in any of the trees of one nonterminal over one piece, however many trees there are."""


class Reach:
    """What is met from the root down, in a chart that no filter has a share in.

    spots: a dict whose keys a, i, j are the nonterminals and pieces that some tree has a node of
    child_pieces: for each r, m the pieces (a dict's keys) over which some tree has a child at symbol m of rule r
    """

    def __init__(self, free_chart, a, i, j):
        self.trees = free_chart
        self.spots = {}
        self.child_pieces = {}
        # Keys r, m, i, j: from symbol m of rule r on, a node's symbols cover the piece in some tree.
        self.rests_met = {}
        self.waiting = []
        if self.trees.place_trees[a][i][j] > 0:
            self.meet_spot((a, i, j))
        while self.waiting:
            self.part(self.waiting.pop())

    def meet_spot(self, spot):
        if spot in self.spots:
            return
        self.spots[spot] = True
        for r in self.trees.places.members[spot[0]]:
            if self.trees.rule_trees[r][spot[1]][spot[2]] > 0:
                self.meet_rest((r, 0, spot[1], spot[2]))

    def meet_rest(self, rest):
        if rest not in self.rests_met:
            self.rests_met[rest] = True
            self.waiting.append(rest)

    def part(self, rest):
        """Meets what the first symbol of a rest may cover, with what is then left for those behind it."""
        r = rest[0]
        m = rest[1]
        i = rest[2]
        j = rest[3]
        places = self.trees.places.of_symbols[r]
        if m == len(places):
            return
        if places[m] is None:
            self.meet_rest((r, m + 1, i + 1, j))
            return
        pieces = self.child_pieces.setdefault((r, m), {})
        for end in self.ends(rest, places[m]):
            pieces[(i, end)] = True
            self.meet_spot((places[m], i, end))
            self.meet_rest((r, m + 1, end, j))

    def ends(self, rest, place):
        """Where the piece of the first symbol of a rest may end."""
        i = rest[2]
        j = rest[3]
        firsts = self.trees.place_trees[place][i]
        behind = self.trees.rests[rest[0]][rest[1]][j]
        return [end for end in range(i, j + 1) if firsts[end] > 0 and behind[end] > 0]

    def has_spot(self, a, i, j):
        return (a, i, j) in self.spots

    def has_link(self, r, m, s):
        """Whether some tree has a node of rule r whose child at symbol m has the root rule s."""
        for piece in self.child_pieces.get((r, m), {}):
            if self.trees.rule_trees[s][piece[0]][piece[1]] > 0:
                return True
        return False
