"""Trees by the words of the document, built one by one and slowly, for small grammars and texts."""


class Oracle:
    """Rules are tuples of a nonterminal and a tuple of symbols: a nonterminal's number, or a tuple lo, hi.

    Filters are lists as they stand in a filter row.
    """

    def __init__(self, rules, text, filters):
        self.rules = rules
        self.text = text
        self.filters = filters
        size = len(text) + 1
        self.pieces = [(i, j) for i in range(size) for j in range(i, size)]
        self.partings = {}
        self.alive = {}
        self.endless = {}
        self.grow_trees()

    def parted(self, symbols, i, j):
        """Each way to give each symbol a piece, the ranges checked."""
        key = (symbols, i, j)
        if key not in self.partings:
            self.partings[key] = list(self.part(symbols, i, j))
        return self.partings[key]

    def part(self, symbols, i, j):
        if not symbols:
            if i == j:
                yield []
            return
        head = symbols[0]
        for end in range(i, j + 1):
            if isinstance(head, tuple) and not (end == i + 1 and head[0] <= self.text[i] <= head[1]):
                continue
            for rest in self.part(symbols[1:], end, j):
                yield [(i, end)] + rest

    def banned(self, a, i, j):
        for one in self.filters:
            if one[0] == 1 and one[1] == a and j < len(self.text) and one[2] <= self.text[j] <= one[3]:
                return True
            if one[0] == 2 and one[1] == a and self.text[i:j] == one[3:]:
                return True
        return False

    def forbidden(self, r, m, s):
        return [0, r, m, s] in self.filters

    def breaks(self, tree):
        """Whether a whole tree breaks a filter, by a walk over its nodes."""
        r, i, j, children = tree
        if self.banned(self.rules[r][0], i, j):
            return True
        return any(self.forbidden(r, m, child[0]) or self.breaks(child) for m, child in children)

    def grow_trees(self):
        """Finds which rule, i, j have a passing tree of each height.

        Those with a tree higher than there are rules with pieces have infinitely many; and where there are
        infinitely many, one of them is at most twice as high.
        """
        states = len(self.rules) * len(self.pieces)
        exact = {}
        for height in range(1, 2 * states + 2):
            now = {}
            for r, (a, _) in enumerate(self.rules):
                for i, j in self.pieces:
                    if not self.banned(a, i, j) and self.reaches(r, i, j, height, exact):
                        now[(r, i, j)] = True
            if not now:
                return
            exact = now
            self.alive.update(now)
            if height > states:
                self.endless.update(now)

    def reaches(self, r, i, j, height, exact):
        """Whether the rule has passing children one of which is just one less high."""
        symbols = self.rules[r][1]
        inner = [m for m, symbol in enumerate(symbols) if isinstance(symbol, int)]
        for pieces in self.parted(symbols, i, j):
            if not inner and height == 1:
                return True
            if inner and self.covers(r, pieces) and any(self.some_child(r, m, pieces[m], exact) for m in inner):
                return True
        return False

    def covers(self, r, pieces):
        """Whether each nonterminal of the rule has a passing tree over its piece."""
        inner = [m for m, symbol in enumerate(self.rules[r][1]) if isinstance(symbol, int)]
        return all(self.some_child(r, m, pieces[m], self.alive) for m in inner)

    def some_child(self, r, m, piece, states):
        a = self.rules[r][1][m]
        for s, rule in enumerate(self.rules):
            if rule[0] == a and (s,) + piece in states and not self.forbidden(r, m, s):
                return True
        return False

    def is_endless(self, a, i, j):
        return any((r, i, j) in self.endless for r, rule in enumerate(self.rules) if rule[0] == a)

    def trees(self, a, i, j, forbidden=()):
        """All trees that pass, in no order that is worth a name; there must be finitely many."""
        if self.banned(a, i, j):
            return
        for r, rule in enumerate(self.rules):
            if rule[0] == a and r not in forbidden:
                for pieces in self.parted(rule[1], i, j):
                    if self.covers(r, pieces):
                        for children in self.children(r, 0, pieces):
                            yield (r, i, j, children)

    def children(self, r, m, pieces):
        symbols = self.rules[r][1]
        if m == len(symbols):
            yield []
            return
        if isinstance(symbols[m], tuple):
            yield from self.children(r, m + 1, pieces)
            return
        forbidden = [s for s in range(len(self.rules)) if self.forbidden(r, m, s)]
        for child in self.trees(symbols[m], pieces[m][0], pieces[m][1], forbidden):
            for rest in self.children(r, m + 1, pieces):
                yield [(m, child)] + rest

    def told_tree(self, a, i, j, told):
        """The tree that a list of nodes tells, each a tuple; None if they tell none. Tries every parting."""
        found = self.first_tree(a, i, j, told)
        return found[0] if found and not found[1] else None

    def first_tree(self, a, i, j, told):
        """A tree told at the list's beginning, and the nodes behind it."""
        if not told or told[0][0] >= len(self.rules):
            return None
        r = told[0][0]
        if told[0] != (r, i, j) or self.rules[r][0] != a:
            return None
        for pieces in self.parted(self.rules[r][1], i, j):
            found = self.first_children(r, pieces, told[1:])
            if found:
                return (r, i, j, found[0]), found[1]
        return None

    def first_children(self, r, pieces, told):
        children = []
        for m, symbol in enumerate(self.rules[r][1]):
            if isinstance(symbol, int):
                found = self.first_tree(symbol, pieces[m][0], pieces[m][1], told)
                if not found:
                    return None
                children.append((m, found[0]))
                told = found[1]
        return children, told


def breaks_one(rules, text, sieve, tree):
    """Whether the tree breaks this filter, by a walk over its nodes."""
    r, i, j, children = tree
    if sieve[0] == 1 and rules[r][0] == sieve[1] and any(sieve[2] <= byte <= sieve[3] for byte in text[j:j + 1]):
        return True
    if sieve[0] == 2 and rules[r][0] == sieve[1] and text[i:j] == sieve[3:]:
        return True
    for m, child in children:
        if sieve == [0, r, m, child[0]] or breaks_one(rules, text, sieve, child):
            return True
    return False


def refined_by_words(nonterminals, rules, filters):
    """The places, and the refined grammar's rules with the rules that they come from."""
    places = [(a, []) for a in range(nonterminals)]
    spots = [(r, m, b) for r, rule in enumerate(rules) for m, b in enumerate(rule[1]) if isinstance(b, int)]
    place_at = {}
    for r, m, b in spots:
        place = (b, [s for s in range(len(rules)) if [0, r, m, s] in filters])
        if place not in places:
            places.append(place)
        place_at[r, m] = places.index(place)
    made = []
    for number, (a, forbidden) in enumerate(places):
        for r, (b, symbols) in enumerate(rules):
            if a == b and r not in forbidden:
                made.append(((number, tuple(place_at.get((r, m), one) for m, one in enumerate(symbols))), r))
    return places, made


def order(tree):
    """What trees of one nonterminal over one piece are ordered by."""
    key = [tree[0]]
    for _, child in tree[3]:
        key += [child[2] - child[1], order(child)]
    return key


def nodes(tree):
    """Rule, from and to of each node, one behind another."""
    told = list(tree[:3])
    for _, child in tree[3]:
        told += nodes(child)
    return told
