"""Promise 1: load."""

import unittest

from talk import SUMS, ask, count, filters, grammar, last, load, reads, sift, text


class GrammarRows(unittest.TestCase):

    def taken(self, row):
        self.assertEqual(ask(load(row)), [[0]], row)

    def refused(self, row, number=-2):
        """The refusal is answered, and the grammar held before it stays."""
        told = ask(load(SUMS), text("a+a"), sift([1, 0, 0, 2, 0]), load(row), count(0, 0, 3), text("a+a+a"),
                   count(0, 0, 5))
        self.assertEqual(told, [[0], [0], [0], [number], [0, 1], [0], [0, 1]], row)

    def test_too_short_and_too_long(self):
        row = grammar(2, (0, 1, "a"), (1,), (1, (0, 255), 0))
        self.taken(row)
        for end in range(len(row)):
            self.refused(row[:end])
        self.refused(row + [0])
        self.refused([1, 0, 0])
        self.refused([0] * 2000)

    def test_how_many_nonterminals(self):
        self.refused([0, 0])
        self.taken([1, 0])
        self.taken([20, 0])
        self.refused([21, 0])
        self.refused([10 ** 18, 0])

    def test_how_many_rules(self):
        self.taken(grammar(1))
        self.taken(grammar(1, *[(0,)] * 60))
        self.refused(grammar(1, *[(0,)] * 61))
        self.refused([1, 10 ** 18])

    def test_the_longest_row(self):
        row = grammar(20, *[(19,) + ((0, 255),) * 8] * 60)
        self.assertEqual(len(row), 1562)
        self.taken(row)

    def test_nonterminal_of_a_rule(self):
        self.taken(grammar(2, (1,)))
        self.refused(grammar(2, (2,)))
        self.taken(grammar(20, (19,)))
        self.refused(grammar(20, (20,)))

    def test_how_many_symbols(self):
        self.taken(grammar(1, (0,)))
        self.taken(grammar(1, (0,) + ("a",) * 8))
        self.refused(grammar(1, (0,) + ("a",) * 9))
        self.taken(grammar(1, (0,) + (0,) * 8))
        self.refused(grammar(1, (0,) + (0,) * 9))

    def test_symbols(self):
        self.taken([1, 1, 0, 1, 0, 0])
        self.taken([1, 1, 0, 1, 1, 0, 0])
        self.refused([1, 1, 0, 1, 2, 0])
        self.refused([1, 1, 0, 1, 2, 0, 0])
        self.taken(grammar(3, (0, 2)))
        self.refused(grammar(3, (0, 3)))

    def test_ranges(self):
        self.taken(grammar(1, (0, (0, 255))))
        self.taken(grammar(1, (0, (255, 255))))
        self.refused(grammar(1, (0, (0, 256))))
        self.refused(grammar(1, (0, (256, 256))))
        self.taken(grammar(1, (0, (7, 7))))
        self.refused(grammar(1, (0, (8, 7))))

    def test_below_zero_comes_first(self):
        self.refused([-1], -1)
        self.refused([1, 0, -1], -1)
        self.refused([0, 99, 5, -10 ** 18], -1)
        self.refused([1, 1, 0, 1, 1, -1, 5], -1)
        self.refused([1, 1, 0, 1, 1, 8, 7] + [3] * 1992 + [-1], -1)

    def test_the_same_rule_twice(self):
        self.assertEqual(last(load(grammar(1, (0, "a"), (0, "a"))), text("a"), count(0, 0, 1)), [0, 2])


class WhatLoadKeeps(unittest.TestCase):

    def test_the_text_stays(self):
        self.assertEqual(ask(text("b"), load(grammar(1, (0, "b"))), reads()), [[0], [0], [0, 1]])

    def test_the_filters_are_dropped(self):
        """Even if the same grammar is loaded again."""
        told = ask(load(SUMS), text("a"), sift([1, 2, 0, 1, 97]), reads(), load(SUMS), reads())
        self.assertEqual(told, [[0], [0], [0], [0, 0], [0], [0, 1]])

    def test_a_refused_load_keeps_the_filters(self):
        for row in [[], [0, 0], [1, 0, -1]]:
            told = ask(load(SUMS), text("a"), sift([1, 2, 0, 1, 97]), load(row), reads(), sift(filters()), reads())
            self.assertEqual(told[4:], [[0, 0], [0], [0, 1]])

    def test_the_last_grammar_holds(self):
        told = ask(text("ab"), load(grammar(1, (0, "a", "b"))), reads(), load(grammar(1, (0, "b", "a"))), reads())
        self.assertEqual(told[2::2], [[0, 1], [0, 0]])


if __name__ == "__main__":
    unittest.main()
