"""Promise 9: refined."""

import unittest

from talk import PAIRS, SUMS, ask, count, filters, grammar, last, load, many, places, refined, sift, text


def parted(told):
    """How many nonterminals, the rules, and the rules that these come from; each rule as a list of numbers."""
    nonterminals, length = told[1:3]
    at = 3
    rules = []
    for _ in range(length):
        start = at
        at += 2
        for _ in range(told[start + 1]):
            at += 2 if told[at] == 0 else 3
        rules.append(told[start:at])
    return nonterminals, rules, told[at:]


class RefinedTold(unittest.TestCase):

    def refined(self, row, *sieves):
        told = last(load(row), sift(filters(*sieves)), refined())
        self.assertEqual(told[0], 0)
        return told[1:]

    def test_no_rules(self):
        self.assertEqual(ask(refined()), [[0, 1, 0]])
        self.assertEqual(self.refined(grammar(4)), [4, 0])
        self.assertEqual(self.refined(grammar(4), [2, 3, 0]), [4, 0])

    def test_no_forbidden_children(self):
        """The grammar as it is, but with its rules by nonterminal."""
        self.assertEqual(self.refined(SUMS), SUMS + [0, 1])
        self.assertEqual(self.refined(SUMS, [1, 0, 43, 43], [2, 0, 1, 97]), SUMS + [0, 1])
        row = grammar(3, (2, 0), (1, "a"), (2,), (0, 1, (0, 255)), (1, "a"))
        ordered = grammar(3, (0, 1, (0, 255)), (1, "a"), (1, "a"), (2, 0), (2,))
        self.assertEqual(self.refined(row), ordered + [3, 1, 4, 0, 2])

    def test_both_sides(self):
        both = grammar(2, (0, 1, "+", 1), (0, "a"), (1, "a"))
        self.assertEqual(self.refined(SUMS, [0, 0, 2, 0], [0, 0, 0, 0]), both + [0, 1, 1])

    def test_a_place_keeps_its_rules_places(self):
        """The rules of a place with something forbidden have the same symbols as those of its nonterminal."""
        expected = grammar(3, (0, 1, 2), (0, "x", 1), (1, 0), (1, "y"), (1, "z"), (2, 0), (2, "z"))
        self.assertEqual(self.refined(PAIRS, [0, 0, 1, 3]), expected + [0, 1, 2, 3, 4, 2, 4])

    def test_several_at_one_symbol(self):
        expected = grammar(3, (0, 1, 2), (0, "x", 1), (1, 0), (1, "y"), (1, "z"), (2, 0))
        for sieves in [[[0, 0, 1, 3], [0, 0, 1, 4]], [[0, 0, 1, 4], [0, 0, 1, 3]],
                       [[0, 0, 1, 4], [0, 0, 1, 3], [0, 0, 1, 4]]]:
            self.assertEqual(self.refined(PAIRS, *sieves), expected + [0, 1, 2, 3, 4, 2])

    def test_all_forbidden(self):
        expected = grammar(3, (0, 2, 1), (0, "x", 1), (1, 0), (1, "y"), (1, "z"))
        self.assertEqual(self.refined(PAIRS, *[[0, 0, 0, s] for s in [2, 3, 4]]), expected + [0, 1, 2, 3, 4])

    def test_the_same_place_at_two_symbols(self):
        expected = grammar(3, (0, 2, 1), (0, "x", 2), (1, 0), (1, "y"), (1, "z"), (2, 0), (2, "y"))
        self.assertEqual(self.refined(PAIRS, [0, 1, 1, 4], [0, 0, 0, 4]), expected + [0, 1, 2, 3, 4, 2, 3])

    def test_other_filters_have_no_share_in_it(self):
        alone = self.refined(PAIRS, [0, 0, 1, 3])
        self.assertEqual(self.refined(PAIRS, [1, 1, 0, 255], [0, 0, 1, 3], [2, 0, 0]), alone)

    def test_beyond_the_bounds_of_grammars(self):
        row, sieves = many()
        told = last(load(row), sift(filters(*sieves)), refined())
        nonterminals, rules, sources = parted(told)
        self.assertEqual(nonterminals, last(load(row), sift(filters(*sieves)), places())[1])
        self.assertGreater(nonterminals, 20)
        # Each nonterminal has three rules; each other place two.
        self.assertEqual(len(rules), 60 + 2 * (nonterminals - 20))
        self.assertEqual(len(sources), len(rules))
        self.assertEqual([rule[0] for rule in rules], sorted(rule[0] for rule in rules))
        self.assertEqual(max(rule[0] for rule in rules), nonterminals - 1)
        self.assertEqual(ask(load(told[1:len(told) - len(sources)])), [[-2]])
        # Rule 0 has places at both symbols; rule 59 has none.
        self.assertEqual([rule for rule, r in zip(rules, sources) if r == 0][0], [0, 2, 0, 20, 0, 21])
        self.assertEqual([rule for rule, r in zip(rules, sources) if r == 59][0], [19, 2, 0, 0, 0, 0])

    def test_the_longest(self):
        row = grammar(1, *[(0,) + (0,) * 8] * 60)
        sieves = [[0, r, 0, r] for r in range(48)]
        nonterminals, rules, sources = parted(last(load(row), sift(filters(*sieves)), refined()))
        self.assertEqual((nonterminals, len(rules)), (49, 60 + 48 * 59))
        self.assertEqual(sources, list(range(60)) + [r for p in range(48) for r in range(60) if r != p])

    def test_its_trees_are_those_that_pass(self):
        row = grammar(1, (0, 0, "+", 0), (0, 0, "*", 0), (0, "-", 0), (0, "a"))
        sieves = [[0, 0, 2, 0], [0, 1, 2, 1], [0, 1, 0, 0], [0, 1, 2, 0], [0, 2, 1, 0], [0, 2, 1, 1]]
        told = last(load(row), sift(filters(*sieves)), refined())
        made = told[1:len(told) - len(parted(told)[2])]
        for some in ["a", "-a+a", "a*-a+a*a", "a+a+a*a*a", "--a*a", "a+-a*a+a", "a+", "+"]:
            free = last(load(row), text(some), sift(filters(*sieves)), count(0, 0, len(some)))
            self.assertEqual(last(load(made), text(some), count(0, 0, len(some))), free)

    def test_the_object_stays(self):
        told = ask(load(SUMS), text("a+a+a"), sift(filters([0, 0, 2, 0])), refined(), count(0, 0, 5), refined(), places())
        self.assertEqual(told[3], told[5])
        self.assertEqual([told[4], told[6]], [[0, 1], [0, 2, 0, 0, 0, 1, 0]])


if __name__ == "__main__":
    unittest.main()
