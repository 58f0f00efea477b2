"""Promise 11: filters."""

import unittest

from talk import SUMS, ambiguous, ask, count, filters, grammar, held_filters, idle, last, load, passes, places, reads
from talk import refined, sift, text, tree


class HeldFilters(unittest.TestCase):

    def held(self, row, sieves):
        self.assertEqual(ask(load(row), sift(sieves), held_filters()), [[0], [0], [0] + sieves])

    def test_the_new_object(self):
        self.assertEqual(ask(held_filters()), [[0, 0]])
        self.assertEqual(ask(load(SUMS), text("a"), held_filters())[2], [0, 0])

    def test_each_sort(self):
        row = grammar(3, (0, 1, 2, "x"), (0, "y"), (1, "p"), (1,), (2, 0), (2, "z"))
        for sieve in [[0, 0, 1, 5], [0, 4, 0, 1], [1, 2, 0, 255], [1, 0, 9, 9], [2, 2, 0], [2, 0, 1, 7],
                      [2, 1, 8, 1, 2, 3, 4, 5, 6, 7, 255]]:
            self.held(row, filters(sieve))
        self.held(row, filters([0, 0, 1, 5], [1, 2, 0, 255], [2, 2, 0], [2, 1, 3, 1, 0, 0], [0, 4, 0, 1]))
        self.held(row, [0])

    def test_as_they_came(self):
        """Neither sorted nor each once."""
        self.held(SUMS, filters([2, 0, 1, 97], [0, 0, 2, 1], [0, 0, 0, 0], [0, 0, 2, 1], [2, 0, 1, 97], [1, 0, 5, 6]))

    def test_forty_eight(self):
        self.held(SUMS, filters(*[[2, 0, 8] + [255] * 8] * 48))
        self.held(SUMS, filters(*[[1, 0, k, k + 1] for k in range(48)]))

    def test_the_last_row(self):
        first, second = filters([0, 0, 2, 0]), filters([2, 0, 1, 97], [1, 0, 43, 43])
        told = ask(load(SUMS), sift(first), held_filters(), sift(second), held_filters(), sift([0]), held_filters(),
                   sift(first), held_filters())
        self.assertEqual(told[2::2], [[0] + first, [0] + second, [0, 0], [0] + first])

    def test_behind_a_refused_filter(self):
        row = filters([0, 0, 2, 0], [2, 0, 1, 97])
        for refused in [[], [1], [49], [-1], [0, 0], filters([0, 0, 1, 0]), filters([2, 0, 1, 98], [2, 1, 0]),
                        filters([2, 0, 1, -1]), filters(*[[2, 0, 0]] * 49)]:
            told = ask(load(SUMS), sift(row), sift(refused), held_filters())
            self.assertIn(told[2], [[-1], [-2]])
            self.assertEqual(told[3], [0] + row)
            self.assertEqual(ask(load(SUMS), sift(refused), held_filters())[2], [0, 0])

    def test_behind_load(self):
        row = filters([0, 0, 2, 0])
        told = ask(load(SUMS), sift(row), load(SUMS), held_filters(), sift(row), load([1, 0]), held_filters())
        self.assertEqual([told[3], told[6]], [[0, 0], [0, 0]])
        for refused in [[], [0, 0], [1, 0, -1]]:
            self.assertEqual(last(load(SUMS), sift(row), load(refused), held_filters()), [0] + row)

    def test_behind_the_other_calls(self):
        row = filters([0, 0, 2, 0], [2, 0, 1, 98])
        for call in [text("a+a"), text([256]), reads(), count(0, 0, 0), count(9, 0, 0), tree(0, 0, 0, 0), places(),
                     passes(0, 0, 0, [1, 0, 0]), passes(0, 0, 0, [-1]), refined(), idle(0), idle(1), idle(2),
                     ambiguous(), held_filters()]:
            self.assertEqual(last(load(SUMS), text("a"), sift(row), call, held_filters()), [0] + row)


if __name__ == "__main__":
    unittest.main()
