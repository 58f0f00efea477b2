"""Small grammars, texts and filters by the hundred: what the program answers against the oracle."""

import itertools
import random
import unittest

from oracle import Oracle, breaks_one, nodes, order, refined_by_words
from talk import ambiguous, ask, count, filters, grammar, idle, load, passes, places, reads, refined, sift, text, tree

MOST = 400


def some_symbol(chance, nonterminals):
    if chance.random() < 0.55:
        return chance.randrange(nonterminals)
    return chance.choice([(97, 97), (97, 98), (98, 98)])


def some_rules(chance, nonterminals):
    rules = []
    for _ in range(chance.randrange(1, 6)):
        symbols = [some_symbol(chance, nonterminals) for _ in range(chance.choice([0, 1, 1, 2, 2, 3]))]
        rules.append((chance.randrange(nonterminals), tuple(symbols)))
    return rules


def all_forbidden_children(rules):
    found = []
    for r, rule in enumerate(rules):
        for m, symbol in enumerate(rule[1]):
            found += [[0, r, m, s] for s, other in enumerate(rules) if symbol == other[0]]
    return found


def some_filter(chance, nonterminals, rules):
    kind = chance.randrange(4)
    a = chance.randrange(nonterminals)
    forbidden = all_forbidden_children(rules)
    if kind < 2 and forbidden:
        return chance.choice(forbidden)
    if kind == 2:
        return [1, a] + chance.choice([[97, 97], [97, 98], [98, 98]])
    word = [chance.choice([97, 98]) for _ in range(chance.randrange(3))]
    return [2, a, len(word)] + word


def some_case(chance):
    nonterminals = chance.randrange(1, 4)
    rules = some_rules(chance, nonterminals)
    some = [chance.choice([97, 98]) for _ in range(chance.randrange(4))]
    sieves = [some_filter(chance, nonterminals, rules) for _ in range(chance.choice([1, 2, 3, 6]))]
    return nonterminals, rules, some, sieves


def holding(nonterminals, rules, some, sieves):
    row = grammar(nonterminals, *[(a,) + symbols for a, symbols in rules])
    return [load(row), text(some), sift(filters(*sieves))]


def some_tree(chance, oracle, a, i, j, depth):
    """One of the trees, by chance; None if it would be deeper."""
    fitting = [r for r, rule in enumerate(oracle.rules) if rule[0] == a and (r, i, j) in oracle.alive]
    if not fitting or depth == 0:
        return None
    r = chance.choice(fitting)
    symbols = oracle.rules[r][1]
    pieces = chance.choice([one for one in oracle.parted(symbols, i, j) if oracle.covers(r, one)])
    children = []
    for m, symbol in enumerate(symbols):
        if isinstance(symbol, int):
            child = some_tree(chance, oracle, symbol, pieces[m][0], pieces[m][1], depth - 1)
            if child is None:
                return None
            children.append((m, child))
    return r, i, j, children


def spoilt(chance, told):
    """A list of nodes that differs a little."""
    told = list(told)
    kind = chance.randrange(5)
    at = 3 * chance.randrange(len(told) // 3)
    if kind == 0:
        return told[:at] + told[at + 3:]
    if kind == 1:
        return told[:at] + told[at:at + 3] + told[at:]
    if kind == 2:
        other = 3 * chance.randrange(len(told) // 3)
        told[at:at + 3], told[other:other + 3] = told[other:other + 3], told[at:at + 3]
        return told
    told[at + chance.randrange(3)] = chance.randrange(6)
    return told


class AgainstOracle(unittest.TestCase):

    def check(self, nonterminals, rules, some, sieves):
        oracle = Oracle(rules, some, sieves)
        held = [load(grammar(nonterminals, *[(a,) + symbols for a, symbols in rules]))]
        held += [text(some), sift(filters(*sieves))]
        pairs = [(reads(), self.reads(oracle, some))]
        for a in range(nonterminals):
            for i, j in oracle.pieces:
                pairs += self.pairs(oracle, a, i, j)
        for at in range(0, len(pairs), 90):
            told = ask(*held, *[call for call, _ in pairs[at:at + 90]])
            self.assertEqual(told[3:], [answer for _, answer in pairs[at:at + 90]], (rules, some, sieves))

    def reads(self, oracle, some):
        alive = [r for r, rule in enumerate(oracle.rules) if rule[0] == 0 and (r, 0, len(some)) in oracle.alive]
        return [0, 1 if alive else 0]

    def pairs(self, oracle, a, i, j):
        """Calls on one nonterminal and piece, each with the answer that is due."""
        if oracle.is_endless(a, i, j):
            return [(count(a, i, j), [1]), (tree(a, i, j, 0), [-6]), (tree(a, i, j, -1), [-6])]
        found = list(itertools.islice(oracle.trees(a, i, j), MOST + 1))
        if len(found) > MOST:
            return []
        pairs = [(count(a, i, j), [0, len(found)]), (tree(a, i, j, len(found)), [-7])]
        for k, one in enumerate(sorted(found, key=order)):
            pairs.append((tree(a, i, j, k), [0, len(nodes(one)) // 3] + nodes(one)))
        return pairs

    def test_many(self):
        chance = random.Random(20)
        for _ in range(600):
            nonterminals = chance.randrange(1, 4)
            rules = some_rules(chance, nonterminals)
            some = [chance.choice([97, 98]) for _ in range(chance.randrange(4))]
            sieves = [some_filter(chance, nonterminals, rules) for _ in range(chance.choice([0, 1, 2, 4]))]
            self.check(nonterminals, rules, some, sieves)

    def test_filters_only_sift(self):
        """Where there are finitely many trees, those that pass are the others without those that break one."""
        chance = random.Random(21)
        for _ in range(400):
            rules = some_rules(chance, 2)
            some = [chance.choice([97, 98]) for _ in range(chance.randrange(1, 4))]
            sieves = [some_filter(chance, 2, rules) for _ in range(chance.randrange(1, 4))]
            free = Oracle(rules, some, [])
            sifted = Oracle(rules, some, sieves)
            end = len(some)
            if free.is_endless(0, 0, end):
                continue
            found = list(itertools.islice(free.trees(0, 0, end), MOST + 1))
            passing = sorted([one for one in found if not sifted.breaks(one)], key=order)[:90]
            if len(found) > MOST:
                continue
            row = grammar(2, *[(a,) + symbols for a, symbols in rules])
            told = ask(load(row), text(some), sift(filters(*sieves)), count(0, 0, end),
                       *[tree(0, 0, end, k) for k in range(len(passing))])
            if len(passing) < 90:
                self.assertEqual(told[3], [0, len(passing)])
            self.assertEqual([one[2:] for one in told[4:]], [nodes(one) for one in passing])

    def test_passes(self):
        chance = random.Random(22)
        seen = {}
        for _ in range(400):
            nonterminals, rules, some, sieves = some_case(chance)
            free = Oracle(rules, some, [])
            pairs = []
            for a in range(nonterminals):
                for i, j in free.pieces:
                    pairs += self.passing_pairs(chance, free, a, i, j, sieves)
            chance.shuffle(pairs)
            told = ask(*holding(nonterminals, rules, some, sieves), *[call for call, _ in pairs[:97]])
            self.assertEqual(told[3:], [answer for _, answer in pairs[:97]], (rules, some, sieves))
            for one in told[3:]:
                seen[tuple(one)] = seen.get(tuple(one), 0) + 1
        for answer in [(0, 0), (0, 1), (0, 2, 0), (0, 2, 1), (0, 2, 3)]:
            self.assertGreater(seen[answer], 10)

    def passing_pairs(self, chance, free, a, i, j, sieves):
        pairs = []
        for _ in range(3):
            one = some_tree(chance, free, a, i, j, 8)
            if one is not None and len(nodes(one)) < 60:
                for told in [nodes(one), spoilt(chance, nodes(one)), spoilt(chance, nodes(one))]:
                    pairs.append((passes(a, i, j, told), self.passes(free, a, i, j, told, sieves)))
        return pairs

    def passes(self, free, a, i, j, told, sieves):
        one = free.told_tree(a, i, j, [tuple(told[at:at + 3]) for at in range(0, len(told), 3)])
        if one is None:
            return [0, 0]
        broken = [f for f, sieve in enumerate(sieves) if breaks_one(free.rules, free.text, sieve, one)]
        return [0, 2, broken[0]] if broken else [0, 1]

    def test_idle(self):
        chance = random.Random(23)
        seen = {}
        for _ in range(500):
            nonterminals, rules, some, sieves = some_case(chance)
            end = len(some)
            free = Oracle(rules, some, [])
            every = None
            if not free.is_endless(0, 0, end):
                every = list(itertools.islice(free.trees(0, 0, end), MOST + 1))
                if len(every) > MOST:
                    continue
            told = ask(*holding(nonterminals, rules, some, sieves), *[idle(f) for f in range(len(sieves))])
            for f, sieve in enumerate(sieves):
                if every is None:
                    expected = Oracle(rules, some, [sieve]).is_endless(0, 0, end)
                else:
                    expected = not any(breaks_one(rules, some, sieve, one) for one in every)
                self.assertEqual(told[3 + f], [0, int(expected)], (rules, some, sieve))
                kind = (every is None, expected)
                seen[kind] = seen.get(kind, 0) + (1 if every != [] else 0)
        for kind in [(True, True), (True, False), (False, True), (False, False)]:
            self.assertGreater(seen[kind], 5, kind)

    def test_ambiguous(self):
        chance = random.Random(24)
        seen = []
        for _ in range(500):
            nonterminals, rules, some, sieves = some_case(chance)
            oracle = Oracle(rules, some, sieves)
            found = [(j - i, i, a) for a in range(nonterminals) for i, j in oracle.pieces
                     if oracle.is_endless(a, i, j) or len(list(itertools.islice(oracle.trees(a, i, j), 2))) == 2]
            expected = [0]
            if found:
                length, i, a = min(found)
                expected = [1, a, i, i + length]
            told = ask(*holding(nonterminals, rules, some, sieves), ambiguous())
            self.assertEqual(told[3], expected, (rules, some, sieves))
            seen.append(expected[1:])
        self.assertGreater(len([one for one in seen if one and one[2] > one[1]]), 20)

    def test_places_and_refined(self):
        chance = random.Random(25)
        for _ in range(500):
            nonterminals, rules, some, sieves = some_case(chance)
            expected, made = refined_by_words(nonterminals, rules, sieves)
            told = ask(*holding(nonterminals, rules, some, sieves), places(), refined())
            row = [len(expected)]
            for a, forbidden in expected:
                row += [a, len(forbidden)] + forbidden
            self.assertEqual(told[3], [0] + row)
            row = grammar(len(expected), *[(rule[0],) + rule[1] for rule, _ in made])
            self.assertEqual(told[4], [0] + row + [r for _, r in made])

    def test_trees_of_the_refined_grammar(self):
        """They are those that pass the forbidden children, with the rules that theirs come from."""
        chance = random.Random(26)
        for _ in range(200):
            nonterminals, rules, some, sieves = some_case(chance)
            sieves = [sieve for sieve in sieves if sieve[0] == 0]
            end = len(some)
            held = holding(nonterminals, rules, some, sieves)
            told = ask(*held, refined(), count(0, 0, end))
            sources = told[3][len(told[3]) - told[3][2]:]
            made = [load(told[3][1:len(told[3]) - len(sources)]), text(some), sift([0]), count(0, 0, end)]
            self.assertEqual(ask(*made)[3], told[4])
            calls = [tree(0, 0, end, k) for k in range(min(90, told[4][-1]))]
            for one, other in zip(ask(*held, *calls)[3:], ask(*made, *calls)[4:]):
                other[2::3] = [sources[r] for r in other[2::3]]
                self.assertEqual(one, other)


if __name__ == "__main__":
    unittest.main()
