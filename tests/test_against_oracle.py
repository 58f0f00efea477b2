"""Small grammars, texts and filters by the hundred: what the program answers against the oracle."""

import itertools
import random
import unittest

from oracle import Oracle, nodes, order
from talk import ask, count, filters, grammar, load, reads, sift, text, tree

MOST = 400


def some_symbol(chance, nonterminals):
    if chance.random() < 0.55:
        return chance.randrange(nonterminals)
    return chance.choice([(97, 97), (97, 98), (98, 98)])


def some_rules(chance, nonterminals):
    rules = []
    for _ in range(chance.randrange(1, 6)):
        symbols = [some_symbol(chance, nonterminals) for _ in range(chance.choice([0, 1, 1, 2, 2, 3]))]
        rules.append((chance.randrange(nonterminals), tuple(symbols)))
    return rules


def all_forbidden_children(rules):
    found = []
    for r, rule in enumerate(rules):
        for m, symbol in enumerate(rule[1]):
            found += [[0, r, m, s] for s, other in enumerate(rules) if symbol == other[0]]
    return found


def some_filter(chance, nonterminals, rules):
    kind = chance.randrange(4)
    a = chance.randrange(nonterminals)
    forbidden = all_forbidden_children(rules)
    if kind < 2 and forbidden:
        return chance.choice(forbidden)
    if kind == 2:
        return [1, a] + chance.choice([[97, 97], [97, 98], [98, 98]])
    word = [chance.choice([97, 98]) for _ in range(chance.randrange(3))]
    return [2, a, len(word)] + word


class AgainstOracle(unittest.TestCase):

    def check(self, nonterminals, rules, some, sieves):
        oracle = Oracle(rules, some, sieves)
        held = [load(grammar(nonterminals, *[(a,) + symbols for a, symbols in rules]))]
        held += [text(some), sift(filters(*sieves))]
        pairs = [(reads(), self.reads(oracle, some))]
        for a in range(nonterminals):
            for i, j in oracle.pieces:
                pairs += self.pairs(oracle, a, i, j)
        for at in range(0, len(pairs), 90):
            told = ask(*held, *[call for call, _ in pairs[at:at + 90]])
            self.assertEqual(told[3:], [answer for _, answer in pairs[at:at + 90]], (rules, some, sieves))

    def reads(self, oracle, some):
        alive = [r for r, rule in enumerate(oracle.rules) if rule[0] == 0 and (r, 0, len(some)) in oracle.alive]
        return [0, 1 if alive else 0]

    def pairs(self, oracle, a, i, j):
        """Calls on one nonterminal and piece, each with the answer that is due."""
        if oracle.is_endless(a, i, j):
            return [(count(a, i, j), [1]), (tree(a, i, j, 0), [-6]), (tree(a, i, j, -1), [-6])]
        found = list(itertools.islice(oracle.trees(a, i, j), MOST + 1))
        if len(found) > MOST:
            return []
        pairs = [(count(a, i, j), [0, len(found)]), (tree(a, i, j, len(found)), [-7])]
        for k, one in enumerate(sorted(found, key=order)):
            pairs.append((tree(a, i, j, k), [0, len(nodes(one)) // 3] + nodes(one)))
        return pairs

    def test_many(self):
        chance = random.Random(20)
        for _ in range(600):
            nonterminals = chance.randrange(1, 4)
            rules = some_rules(chance, nonterminals)
            some = [chance.choice([97, 98]) for _ in range(chance.randrange(4))]
            sieves = [some_filter(chance, nonterminals, rules) for _ in range(chance.choice([0, 1, 2, 4]))]
            self.check(nonterminals, rules, some, sieves)

    def test_filters_only_sift(self):
        """Where there are finitely many trees, those that pass are the others without those that break one."""
        chance = random.Random(21)
        for _ in range(400):
            rules = some_rules(chance, 2)
            some = [chance.choice([97, 98]) for _ in range(chance.randrange(1, 4))]
            sieves = [some_filter(chance, 2, rules) for _ in range(chance.randrange(1, 4))]
            free = Oracle(rules, some, [])
            sifted = Oracle(rules, some, sieves)
            end = len(some)
            if free.is_endless(0, 0, end):
                continue
            found = list(itertools.islice(free.trees(0, 0, end), MOST + 1))
            passing = sorted([one for one in found if not sifted.breaks(one)], key=order)[:90]
            if len(found) > MOST:
                continue
            row = grammar(2, *[(a,) + symbols for a, symbols in rules])
            told = ask(load(row), text(some), sift(filters(*sieves)), count(0, 0, end),
                       *[tree(0, 0, end, k) for k in range(len(passing))])
            if len(passing) < 90:
                self.assertEqual(told[3], [0, len(passing)])
            self.assertEqual([one[2:] for one in told[4:]], [nodes(one) for one in passing])


if __name__ == "__main__":
    unittest.main()
