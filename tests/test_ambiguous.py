"""Promise 11: ambiguous."""

import unittest

from talk import SUMS, ambiguous, ask, count, filters, grammar, last, load, sift, text


class Ambiguous(unittest.TestCase):

    def found(self, row, some, *sieves):
        return last(load(row), text(some), sift(filters(*sieves)), ambiguous())

    def test_none(self):
        self.assertEqual(ask(ambiguous(), text("a"), ambiguous()), [[0], [0], [0]])
        for some in ["", "a", "a+a", "+a+", "b", "aaaa"]:
            self.assertEqual(self.found(SUMS, some), [0])
        self.assertEqual(self.found(grammar(1, (0, 0)), "aaa"), [0])

    def test_two_trees(self):
        self.assertEqual(self.found(SUMS, "a+a+a"), [1, 0, 0, 5])
        self.assertEqual(self.found(grammar(1, (0, "a"), (0, "a")), "a"), [1, 0, 0, 1])

    def test_a_piece_of_the_text(self):
        self.assertEqual(self.found(SUMS, "+a+a+a+"), [1, 0, 1, 6])
        self.assertEqual(self.found(SUMS, "b" * 19 + "a+a+a"), [1, 0, 19, 24])

    def test_the_shortest_piece(self):
        self.assertEqual(self.found(SUMS, "a+a+a+a"), [1, 0, 0, 5])
        row = grammar(2, (0, "x", "x", "x"), (0, "x", "x", "x"), (1, "y", "y"), (1, "y", "y"))
        self.assertEqual(self.found(row, "xxxyy"), [1, 1, 3, 5])
        self.assertEqual(self.found(row, "xxxy"), [1, 0, 0, 3])

    def test_the_smallest_from(self):
        row = grammar(3, (0, "x"), (1, "y"), (1, "y"), (2, "z"), (2, "z"), (0, "x"))
        self.assertEqual(self.found(row, "zyx"), [1, 2, 0, 1])
        self.assertEqual(self.found(row, "yzx"), [1, 1, 0, 1])
        self.assertEqual(self.found(row, ".zzy"), [1, 2, 1, 2])

    def test_the_smallest_nonterminal(self):
        row = grammar(4, (3, "a"), (3, "a"), (2, "a"), (2, "a"), (1, "a"), (0, "a"))
        self.assertEqual(self.found(row, "a"), [1, 2, 0, 1])
        self.assertEqual(self.found(row, "aa"), [1, 2, 0, 1])
        # The rules' order has no share in it.
        row = grammar(20, (19, "a"), (19, "a"), (18, "a"), (17, "a"), (18, "a"))
        self.assertEqual(self.found(row, "ba"), [1, 18, 1, 2])

    def test_pieces_without_bytes(self):
        row = grammar(2, (0, "a", 1), (1,), (1,))
        self.assertEqual(self.found(row, ""), [1, 1, 0, 0])
        self.assertEqual(self.found(row, "a"), [1, 1, 0, 0])
        self.assertEqual(self.found(row, "ab", [1, 1, 97, 97]), [1, 1, 1, 1])
        self.assertEqual(self.found(row, "ab", [1, 1, 97, 98]), [1, 1, 2, 2])
        self.assertEqual(self.found(row, "ab", [2, 1, 0]), [0])

    def test_nonterminals_that_the_start_does_not_reach(self):
        row = grammar(3, (0, "a"), (2, "a"), (2, "a"))
        self.assertEqual(self.found(row, "a"), [1, 2, 0, 1])
        self.assertEqual(self.found(row, "ba"), [1, 2, 1, 2])
        self.assertEqual(self.found(row, "b"), [0])

    def test_pieces_that_no_tree_of_the_whole_text_has(self):
        row = grammar(1, (0, "a", "b", "c"), (0, "b"), (0, "b"))
        self.assertEqual(self.found(row, "abc"), [1, 0, 1, 2])

    def test_infinitely_many(self):
        row = grammar(1, (0, 0), (0, "a"))
        self.assertEqual(self.found(row, "ba"), [1, 0, 1, 2])
        self.assertEqual(self.found(grammar(1, (0, 0, 0), (0,)), "ba"), [1, 0, 0, 0])
        self.assertEqual(self.found(row, "b"), [0])

    def test_very_many(self):
        rules = [(k,) + (k + 1,) * 8 for k in range(19)] + [(19,), (19, "a"), (19, "b")]
        self.assertEqual(self.found(grammar(20, *rules), ""), [0])
        self.assertEqual(self.found(grammar(20, *rules), "a"), [1, 0, 0, 1])
        self.assertEqual(self.found(grammar(20, *rules, (19,)), "a"), [1, 0, 0, 0])

    def test_only_trees_that_pass_count(self):
        self.assertEqual(self.found(SUMS, "a+a+a", [0, 0, 2, 0]), [0])
        self.assertEqual(self.found(SUMS, "a+a+a", [0, 0, 0, 0]), [0])
        self.assertEqual(self.found(SUMS, "a+a+a", [2, 0, 1, 97]), [0])
        self.assertEqual(self.found(SUMS, "a+a+a", [2, 0, 1, 98]), [1, 0, 0, 5])
        # Two of the five trees of four operands are left, and one of each three operands.
        row = grammar(1, (0, 0, "+", 0), (0, "a"), (0, "b"))
        self.assertEqual(self.found(row, "a+b+a+a", [2, 0, 3, 98, 43, 97]), [1, 0, 0, 7])
        self.assertEqual(self.found(row, "a+b+a+a", [2, 0, 3, 98, 43, 97], [2, 0, 3, 97, 43, 97]), [0])

    def test_finitely_many_of_infinitely_many(self):
        row = grammar(1, (0, 0), (0, "a"))
        self.assertEqual(self.found(row, "a", [0, 0, 0, 0]), [1, 0, 0, 1])
        self.assertEqual(self.found(row, "a", [0, 0, 0, 1]), [0])

    def test_places_are_no_nonterminals(self):
        """Some rules of 0 are forbidden beneath rule 0; only trees of the nonterminals themselves count."""
        row = grammar(2, (0, 1), (1, "a"), (1, "b"), (1, "b"), (1, "b"))
        self.assertEqual(self.found(row, "a", [0, 0, 0, 1]), [0])
        self.assertEqual(self.found(row, "b", [0, 0, 0, 1]), [1, 0, 0, 1])
        self.assertEqual(self.found(row, "b", [0, 0, 0, 2], [0, 0, 0, 3]), [1, 1, 0, 1])

    def test_what_is_held_now(self):
        told = ask(load(SUMS), text("a+a+a"), ambiguous(), sift(filters([0, 0, 2, 0])), ambiguous(), sift([7]),
                   ambiguous(), load(SUMS), ambiguous(), text("a"), ambiguous(), text([300]), ambiguous())
        self.assertEqual(told[2::2], [[1, 0, 0, 5], [0], [0], [1, 0, 0, 5], [0], [0]])

    def test_the_object_stays(self):
        told = ask(load(SUMS), text("a+a+a"), ambiguous(), count(0, 0, 5), ambiguous())
        self.assertEqual(told[2:], [[1, 0, 0, 5], [0, 2], [1, 0, 0, 5]])

    def test_the_longest_text(self):
        row = grammar(2, (0, (97, 122), 0), (0,), (1,) + ((97, 122),) * 8, (0,) + ((97, 122),) * 8)
        # From eight bytes on rule 3 takes the last ones in the stead of rules 0 and 1.
        self.assertEqual(self.found(row, "a" * 24), [1, 0, 0, 8])
        self.assertEqual(self.found(row, "." * 16 + "a" * 8), [1, 0, 16, 24])
        self.assertEqual(self.found(row, "." * 17 + "a" * 7), [0])


if __name__ == "__main__":
    unittest.main()
