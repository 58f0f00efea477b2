"""Promise 8: places."""

import unittest

from talk import PAIRS, SUMS, ask, filters, grammar, last, load, many, places, reads, sift, text


class PlacesTold(unittest.TestCase):

    def placed(self, row, *sieves):
        """The places, each as a tuple of its nonterminal and a list of rules."""
        told = last(load(row), sift(filters(*sieves)), places())
        self.assertEqual(told[0], 0)
        found = []
        at = 2
        while at < len(told):
            found.append((told[at], told[at + 2:at + 2 + told[at + 1]]))
            at += 2 + told[at + 1]
        self.assertEqual((at, len(found)), (len(told), told[1]))
        return found

    def test_the_new_object(self):
        self.assertEqual(ask(places()), [[0, 1, 0, 0]])

    def test_no_rules(self):
        self.assertEqual(self.placed(grammar(1)), [(0, [])])
        self.assertEqual(self.placed(grammar(3)), [(0, []), (1, []), (2, [])])
        self.assertEqual(self.placed(grammar(3), [1, 2, 0, 9], [2, 0, 0]), [(0, []), (1, []), (2, [])])

    def test_no_filters(self):
        self.assertEqual(ask(load(PAIRS), places()), [[0], [0, 2, 0, 0, 1, 0]])

    def test_other_filters_add_none(self):
        self.assertEqual(self.placed(PAIRS, [1, 0, 0, 255], [2, 1, 1, 121], [2, 0, 0]), [(0, []), (1, [])])
        mixed = [[1, 1, 0, 255], [0, 1, 1, 3], [2, 1, 1, 121]]
        self.assertEqual(self.placed(PAIRS, *mixed), [(0, []), (1, []), (1, [3])])

    def test_one(self):
        self.assertEqual(self.placed(PAIRS, [0, 0, 0, 2]), [(0, []), (1, []), (1, [2])])
        self.assertEqual(self.placed(PAIRS, [0, 2, 0, 1]), [(0, []), (1, []), (0, [1])])

    def test_by_rule_and_symbol_not_by_filter(self):
        expected = [(0, []), (1, []), (1, [4]), (1, [3]), (1, [2]), (0, [0])]
        sieves = [[0, 0, 0, 4], [0, 0, 1, 3], [0, 1, 1, 2], [0, 2, 0, 0]]
        self.assertEqual(self.placed(PAIRS, *sieves), expected)
        self.assertEqual(self.placed(PAIRS, *reversed(sieves)), expected)

    def test_several_at_one_symbol(self):
        for sieves in [[[0, 0, 1, 4], [0, 0, 1, 2]], [[0, 0, 1, 2], [0, 0, 1, 4]],
                       [[0, 0, 1, 4], [2, 0, 0], [0, 0, 1, 2]]]:
            self.assertEqual(self.placed(PAIRS, *sieves), [(0, []), (1, []), (1, [2, 4])])
        self.assertEqual(self.placed(PAIRS, [0, 0, 1, 4], [0, 0, 0, 3], [0, 0, 1, 2], [0, 0, 1, 3]),
                         [(0, []), (1, []), (1, [3]), (1, [2, 3, 4])])

    def test_all_rules_forbidden(self):
        self.assertEqual(self.placed(SUMS, [0, 0, 0, 1], [0, 0, 0, 0]), [(0, []), (0, [0, 1])])

    def test_ten_and_nine(self):
        """Rules ascend as numbers do."""
        row = grammar(2, (0, 1), *[(1,)] * 12)
        self.assertEqual(self.placed(row, *[[0, 0, 0, s] for s in [10, 9, 2, 12, 1]]),
                         [(0, []), (1, []), (1, [1, 2, 9, 10, 12])])

    def test_the_same_filter_twice(self):
        self.assertEqual(self.placed(PAIRS, [0, 0, 1, 3], [0, 0, 1, 3]), [(0, []), (1, []), (1, [3])])
        self.assertEqual(self.placed(PAIRS, [0, 0, 1, 3], [0, 0, 1, 2], [0, 0, 1, 3]), [(0, []), (1, []), (1, [2, 3])])

    def test_the_same_place_at_two_symbols(self):
        self.assertEqual(self.placed(PAIRS, [0, 0, 0, 3], [0, 0, 1, 3], [0, 1, 1, 3]), [(0, []), (1, []), (1, [3])])
        self.assertEqual(self.placed(PAIRS, [0, 0, 0, 3], [0, 0, 0, 4], [0, 0, 1, 3], [0, 1, 1, 4], [0, 1, 1, 3]),
                         [(0, []), (1, []), (1, [3, 4]), (1, [3])])

    def test_more_than_twenty(self):
        row, sieves = many()
        expected = [(a, []) for a in range(20)]
        for b in list(range(1, 20)) + [0]:
            expected += [(b, [b]), (b, [b + 20])]
        expected += [(1, [41]), (2, [42]), (3, [43]), (4, [44])]
        self.assertEqual(self.placed(row, *sieves), expected)
        self.assertEqual(self.placed(row, *reversed(sieves)), expected)
        self.assertEqual((len(sieves), len(expected)), (48, 64))

    def test_the_text_has_no_share_in_them(self):
        told = ask(load(PAIRS), sift(filters([0, 0, 0, 3])), places(), text("xy"), places(), reads(), places())
        self.assertEqual([told[2], told[4], told[6]], [[0, 3, 0, 0, 1, 0, 1, 1, 3]] * 3)

    def test_the_filters_held_now(self):
        told = ask(load(PAIRS), places(), sift(filters([0, 0, 0, 3])), places(), sift([9]), places(), sift([0]),
                   places(), sift(filters([0, 0, 0, 4])), load([1]), places(), load(SUMS), places())
        three, two = [0, 3, 0, 0, 1, 0, 1, 1], [0, 2, 0, 0, 1, 0]
        self.assertEqual(told[1::2], [two, three + [3], three + [3], two, [-2], [0]])
        self.assertEqual(told[10::2], [three + [4], [0, 1, 0, 0]])


if __name__ == "__main__":
    unittest.main()
