"""Promise 3: filter, and what each sort of filter does."""

import unittest

from talk import SUMS, ask, count, filters, grammar, last, load, reads, sift, text

# 0 -> 1 2 "x" | "y", 1 -> "p" | nothing, 2 -> 0 | "z"
MIXED = grammar(3, (0, 1, 2, "x"), (0, "y"), (1, "p"), (1,), (2, 0), (2, "z"))


class FilterRows(unittest.TestCase):

    def taken(self, row, loaded=MIXED):
        self.assertEqual(ask(load(loaded), sift(row)), [[0], [0]], row)

    def refused(self, row, number=-2, loaded=MIXED):
        """The refusal is answered, and the filters held before it stay."""
        told = ask(load(loaded), sift(row))
        self.assertEqual(told, [[0], [number]], row)
        if loaded == MIXED:
            told = ask(load(MIXED), text("y"), sift([1, 2, 0, 1, 121]), sift(row), reads(), text("pzx"), reads())
            self.assertEqual(told[3:], [[number], [0, 0], [0], [0, 1]], row)

    def test_too_short_and_too_long(self):
        row = filters([0, 0, 0, 2], [1, 2, 0, 255], [2, 0, 2, 97, 98], [2, 1, 0])
        self.taken(row)
        for end in range(len(row)):
            self.refused(row[:end])
        self.refused(row + [0])
        self.refused([0, 0])

    def test_how_many_filters(self):
        self.taken([0])
        self.taken(filters(*[[2, 0, 0]] * 48))
        self.refused(filters(*[[2, 0, 0]] * 49))
        self.refused([10 ** 18])
        self.refused([2, 2, 0, 0])

    def test_sorts(self):
        self.refused(filters([3, 0, 0, 0]))
        self.refused(filters([3, 0, 0]))
        self.refused(filters([10 ** 18]))

    def test_rules_of_a_forbidden_child(self):
        self.taken(filters([0, 4, 0, 0]))
        self.taken(filters([0, 4, 0, 1]))
        self.refused(filters([0, 6, 0, 0]))
        self.refused(filters([0, 4, 0, 6]))
        self.refused(filters([0, 0, 0, 0]), loaded=grammar(1))

    def test_symbol_number_of_a_forbidden_child(self):
        self.taken(filters([0, 0, 0, 2]))
        self.taken(filters([0, 0, 0, 3]))
        self.taken(filters([0, 0, 1, 4]))
        self.taken(filters([0, 0, 1, 5]))
        self.refused(filters([0, 0, 3, 2]))
        self.refused(filters([0, 3, 0, 2]))

    def test_another_nonterminal_stands_there(self):
        self.refused(filters([0, 0, 0, 4]))
        self.refused(filters([0, 0, 1, 2]))
        self.refused(filters([0, 0, 0, 0]))

    def test_a_range_stands_there(self):
        for s in range(6):
            self.refused(filters([0, 0, 2, s]))
        # The range's first byte, or both, are like a nonterminal's number.
        self.refused(filters([0, 0, 0, 0]), loaded=grammar(2, (0, (0, 0)), (1, (1, 1))))
        self.refused(filters([0, 1, 0, 1]), loaded=grammar(2, (0, (0, 0)), (1, (1, 1))))

    def test_followed(self):
        self.taken(filters([1, 2, 0, 255]))
        self.taken(filters([1, 0, 255, 255]))
        self.taken(filters([1, 0, 9, 9]))
        self.refused(filters([1, 0, 10, 9]))
        self.refused(filters([1, 0, 0, 256]))
        self.refused(filters([1, 0, 256, 256]))
        self.refused(filters([1, 3, 0, 255]))

    def test_words(self):
        self.taken(filters([2, 2, 0]))
        self.taken(filters([2, 2, 8] + [255] * 8))
        self.refused(filters([2, 2, 9] + [255] * 9))
        self.refused(filters([2, 3, 0]))
        self.refused(filters([2, 2, 1, 256]))

    def test_below_zero_comes_first(self):
        self.refused([-1], -1)
        self.refused([49, -1], -1)
        self.refused(filters([0, 0, -1, 2]), -1)
        self.refused(filters([9, 9, 9, 9]) + [-10 ** 18], -1)
        self.refused([0] * 1999 + [-1], -1)

    def test_the_new_object_has_a_nonterminal_and_no_rules(self):
        self.assertEqual(ask(sift([0]), sift([1, 2, 0, 0]), sift([1, 2, 1, 0]), sift([1, 0, 0, 0, 0])),
                         [[0], [0], [-2], [-2]])


class WhatFiltersDo(unittest.TestCase):

    def counts(self, row, some, sieves, *pieces):
        told = ask(load(row), text(some), sift(sieves), *[count(*piece) for piece in pieces])
        return [one[1] for one in told[3:]]

    def test_forbidden_child(self):
        self.assertEqual(self.counts(SUMS, "a+a+a+a", [0], (0, 0, 7)), [5])
        self.assertEqual(self.counts(SUMS, "a+a+a+a", filters([0, 0, 2, 0]), (0, 0, 7)), [1])
        self.assertEqual(self.counts(SUMS, "a+a+a+a", filters([0, 0, 0, 0]), (0, 0, 7)), [1])
        both = filters([0, 0, 0, 0], [0, 0, 2, 0])
        self.assertEqual(self.counts(SUMS, "a+a+a+a", both, (0, 0, 7), (0, 0, 3)), [0, 1])
        self.assertEqual(self.counts(SUMS, "a+a", filters([0, 0, 2, 1]), (0, 0, 3), (0, 0, 1)), [0, 1])

    def test_forbidden_child_by_its_symbol_number(self):
        """The number counts ranges too, and only the child at that very symbol is looked at."""
        row = grammar(2, (0, "(", 1, 1, ")"), (1, "x"), (1, "y"))
        for some, expected in [("(xx)", 0), ("(xy)", 0), ("(yx)", 1), ("(yy)", 1)]:
            self.assertEqual(self.counts(row, some, filters([0, 0, 1, 1]), (0, 0, 4)), [expected])

    def test_forbidden_grandchild_is_no_child(self):
        row = grammar(2, (0, 1), (1, 1, "x"), (1, "x"))
        self.assertEqual(self.counts(row, "xx", filters([0, 0, 0, 2]), (0, 0, 2), (0, 0, 1)), [1, 0])

    def test_several_children_forbidden_at_one_symbol(self):
        row = grammar(2, (0, 1), (1, "x"), (1, "x"), (1, "x"))
        self.assertEqual(self.counts(row, "x", filters([0, 0, 0, 3], [0, 0, 0, 1], [0, 0, 0, 3]), (0, 0, 1)), [1])

    def test_precedence(self):
        row = grammar(1, (0, 0, "+", 0), (0, 0, "*", 0), (0, "a"))
        left = [[0, 0, 2, 0], [0, 1, 2, 1], [0, 1, 0, 0], [0, 1, 2, 0]]
        for some in ["a+a*a+a", "a*a*a+a", "a+a+a*a*a+a*a"]:
            self.assertEqual(self.counts(row, some, filters(*left), (0, 0, len(some))), [1])

    def test_followed(self):
        """A name that a letter follows is none; at the text's end nothing follows."""
        row = grammar(2, (0, 1, 0), (0, 1), (1, (97, 122), 1), (1, (97, 122)))
        self.assertEqual(self.counts(row, "abc", [0], (0, 0, 3)), [4])
        self.assertEqual(self.counts(row, "abc", filters([1, 1, 97, 122]), (1, 0, 3), (1, 0, 2), (1, 2, 3)), [1, 0, 1])
        # The names of the rest are followed by nothing, those ahead of them by a letter.
        self.assertEqual(self.counts(row, "abc", filters([1, 1, 97, 122]), (0, 0, 3), (0, 0, 2)), [1, 0])

    def test_followed_at_the_bounds(self):
        row = grammar(2, (0, 1, (0, 255)), (1, "a"))
        for byte, expected in [(49, 1), (50, 0), (55, 0), (60, 0), (61, 1)]:
            self.assertEqual(self.counts(row, [97, byte], filters([1, 1, 50, 60]), (0, 0, 2)), [expected])

    def test_followed_looks_beyond_the_piece(self):
        self.assertEqual(self.counts(SUMS, "a+a", filters([1, 0, 43, 43]), (0, 0, 1), (0, 2, 3), (0, 0, 3)), [0, 1, 0])

    def test_followed_pieces_without_bytes(self):
        row = grammar(1, (0,))
        self.assertEqual(self.counts(row, "ab", filters([1, 0, 98, 98]), (0, 0, 0), (0, 1, 1), (0, 2, 2)), [1, 0, 1])

    def test_words(self):
        row = grammar(2, (0, 1), (1, (97, 122), 1), (1,))
        reserved = filters([2, 0, 2, 105, 102])
        for some, expected in [("if", 0), ("i", 1), ("iff", 1), ("fi", 1), ("", 1)]:
            self.assertEqual(self.counts(row, some, reserved, (0, 0, len(some))), [expected])

    def test_words_of_no_and_of_eight_bytes(self):
        row = grammar(1, (0, (97, 122), 0), (0,), (0, (97, 122)))
        self.assertEqual(self.counts(row, "abcdefgh", [0], (0, 0, 8)), [2])
        self.assertEqual(self.counts(row, "abcdefgh", filters([2, 0, 0]), (0, 0, 8), (0, 3, 3)), [1, 0])
        long = filters([2, 0, 8] + list(range(97, 105)))
        self.assertEqual(self.counts(row, "abcdefgh", long, (0, 0, 8), (0, 0, 7), (0, 1, 8)), [0, 2, 2])
        self.assertEqual(self.counts(row, "abcdefg", long, (0, 0, 7)), [2])
        self.assertEqual(self.counts(row, "xabcdefghx", long, (0, 0, 10), (0, 1, 9)), [2, 0])

    def test_the_rows_take_the_place_of_those_before(self):
        told = ask(load(SUMS), text("a"), sift([1, 2, 0, 1, 97]), reads(), sift([1, 0, 0, 2, 0]), reads(), sift([0]),
                   reads())
        self.assertEqual(told[3::2], [[0, 0], [0, 1], [0, 1]])

    def test_after_a_new_load(self):
        """A filter row is one of the grammar that is held now."""
        row = filters([0, 4, 0, 0])
        told = ask(load(MIXED), sift(row), load(SUMS), sift(row), sift([1, 0, 0, 2, 0]), load(MIXED),
                   sift([1, 0, 0, 2, 0]), sift(row))
        self.assertEqual(told, [[0], [0], [0], [-2], [0], [0], [-2], [0]])

    def test_forty_eight_filters_hold_all(self):
        words = [[2, 0, 1, byte] for byte in range(48)]
        row = grammar(1, (0, (0, 255)))
        for byte, expected in [(0, [0, 0]), (47, [0, 0]), (48, [0, 1])]:
            self.assertEqual(last(load(row), text([byte]), sift(filters(*words)), reads()), expected)


if __name__ == "__main__":
    unittest.main()
