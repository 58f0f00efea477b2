"""Promise 4: reads."""

import unittest

from talk import SUMS, ask, filters, grammar, last, load, reads, sift, text


class Reads(unittest.TestCase):

    def read(self, row, some, sieves=(0,)):
        return last(load(row), text(some), sift(list(sieves)), reads())

    def test_the_new_object(self):
        self.assertEqual(ask(reads()), [[0, 0]])
        self.assertEqual(ask(text("a"), reads()), [[0], [0, 0]])

    def test_sums(self):
        for some, expected in [("a", 1), ("a+a", 1), ("a+a+a", 1), ("", 0), ("+", 0), ("a+", 0), ("aa", 0), ("b", 0)]:
            self.assertEqual(self.read(SUMS, some), [0, expected])

    def test_the_start_alone(self):
        row = grammar(2, (1, "a"))
        self.assertEqual(self.read(row, "a"), [0, 0])

    def test_ranges_at_their_bounds(self):
        row = grammar(1, (0, (98, 100)))
        for some, expected in [("a", 0), ("b", 1), ("c", 1), ("d", 1), ("e", 0), ("bb", 0), ("", 0)]:
            self.assertEqual(self.read(row, some), [0, expected])

    def test_rules_without_symbols(self):
        row = grammar(3, (0, 1, "a", 2, 1), (1,), (2, 1, 1, 1))
        self.assertEqual(self.read(row, "a"), [0, 1])
        self.assertEqual(self.read(row, ""), [0, 0])
        self.assertEqual(self.read(grammar(1, (0,)), ""), [0, 1])
        self.assertEqual(self.read(grammar(1, (0,)), "a"), [0, 0])

    def test_rules_that_lead_back_to_themselves(self):
        self.assertEqual(self.read(grammar(1, (0, 0)), ""), [0, 0])
        self.assertEqual(self.read(grammar(1, (0, 0), (0, 0, 0)), "a"), [0, 0])
        self.assertEqual(self.read(grammar(2, (0, 1), (1, 0)), "a"), [0, 0])
        self.assertEqual(self.read(grammar(2, (0, 1), (1, 0), (1, "a")), "a"), [0, 1])
        self.assertEqual(self.read(grammar(1, (0, 0), (0, "a")), "a"), [0, 1])
        self.assertEqual(self.read(grammar(1, (0, 0, 0), (0,)), ""), [0, 1])
        self.assertEqual(self.read(grammar(1, (0, 0, 0), (0,), (0, "a")), "aaa"), [0, 1])

    def test_left_and_right_recursion(self):
        for row in [grammar(1, (0, 0, "a"), (0,)), grammar(1, (0, "a", 0), (0,)), grammar(1, (0, 0, 0), (0, "a"))]:
            self.assertEqual(self.read(row, "a" * 24), [0, 1])
            self.assertEqual(self.read(row, "a" * 23 + "b"), [0, 0])

    def test_filters(self):
        self.assertEqual(self.read(SUMS, "a+a+a", filters([0, 0, 2, 0])), [0, 1])
        self.assertEqual(self.read(SUMS, "a+a+a", filters([0, 0, 2, 0], [0, 0, 0, 0])), [0, 0])
        self.assertEqual(self.read(SUMS, "a+a", filters([2, 0, 1, 97])), [0, 0])
        self.assertEqual(self.read(SUMS, "a+a", filters([1, 0, 43, 43])), [0, 0])
        self.assertEqual(self.read(SUMS, "a", filters([1, 0, 43, 43])), [0, 1])

    def test_a_filter_on_the_way_to_infinitely_many(self):
        self.assertEqual(self.read(grammar(1, (0, 0), (0, "a")), "a", filters([0, 0, 0, 1])), [0, 1])
        self.assertEqual(self.read(grammar(2, (0, 1), (1, 1), (1, "a")), "a", filters([0, 0, 0, 2])), [0, 1])
        both = filters([0, 0, 0, 2], [0, 1, 0, 2])
        self.assertEqual(self.read(grammar(2, (0, 1), (1, 1), (1, "a")), "a", both), [0, 0])


if __name__ == "__main__":
    unittest.main()
