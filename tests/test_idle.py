"""Promise 10: idle."""

import unittest

from talk import SUMS, ask, count, filters, grammar, held_filters, idle, last, load, reads, sift, text, tree

BIG = 10 ** 60
FAR = 10 ** 18

LOOP = grammar(1, (0, 0), (0, "a"))


class Refusals(unittest.TestCase):

    def refused(self, f, *sieves):
        held = [load(SUMS), text("a+a+a"), sift(filters(*sieves))]
        told = ask(*held, idle(f), count(0, 0, 5), held_filters())
        plain = ask(*held, count(0, 0, 5), held_filters())
        self.assertEqual(told[3:], [[-10]] + plain[3:])

    def test_no_such_filter(self):
        for f in [-1, 2, 3, 48, FAR, -FAR]:
            self.refused(f, [0, 0, 2, 0], [2, 0, 1, 97])
        told = ask(load(SUMS), text("a+a+a"), sift(filters([0, 0, 2, 0], [2, 0, 1, 98])), idle(0), idle(1), idle(2))
        self.assertEqual(told[3:], [[0, 0], [0, 1], [-10]])

    def test_no_filters(self):
        for f in [-1, 0, 1, FAR]:
            self.refused(f)
        self.assertEqual(ask(idle(0)), [[-10]])

    def test_the_last_of_forty_eight(self):
        sieves = [[2, 0, 1, 98]] * 47 + [[2, 0, 1, 97]]
        told = ask(load(SUMS), text("a"), sift(filters(*sieves)), idle(46), idle(47), idle(48), idle(-1))
        self.assertEqual(told[3:], [[0, 1], [0, 0], [-10], [-10]])


class Idle(unittest.TestCase):

    def answered(self, row, some, *sieves):
        """A truth for each filter."""
        told = ask(load(row), text(some), sift(filters(*sieves)), *[idle(f) for f in range(len(sieves))])
        self.assertEqual([one[0] for one in told], [0] * len(told))
        return [one[1] for one in told[3:]]

    def test_forbidden_children(self):
        sieves = [[0, 0, 0, 0], [0, 0, 2, 0], [0, 0, 0, 1], [0, 0, 2, 1]]
        self.assertEqual(self.answered(SUMS, "a", *sieves), [1, 1, 1, 1])
        self.assertEqual(self.answered(SUMS, "a+a", *sieves), [1, 1, 0, 0])
        self.assertEqual(self.answered(SUMS, "a+a+a", *sieves), [0, 0, 0, 0])

    def test_forbidden_children_at_their_very_symbol(self):
        row = grammar(2, (0, "(", 1, 1, ")"), (1, "x"), (1, "y"))
        sieves = [[0, 0, 1, 1], [0, 0, 1, 2], [0, 0, 2, 1], [0, 0, 2, 2]]
        self.assertEqual(self.answered(row, "(xy)", *sieves), [0, 1, 1, 0])
        self.assertEqual(self.answered(row, "(yy)", *sieves), [1, 0, 1, 0])

    def test_forbidden_grandchildren(self):
        row = grammar(2, (0, 1), (1, 1, "x"), (1, "x"))
        self.assertEqual(self.answered(row, "xx", [0, 0, 0, 2], [0, 0, 0, 1], [0, 1, 0, 2], [0, 1, 0, 1]), [1, 0, 0, 1])

    def test_followed(self):
        self.assertEqual(self.answered(SUMS, "a+a", [1, 0, 43, 43], [1, 0, 44, 255], [1, 0, 0, 42]), [0, 1, 1])
        self.assertEqual(self.answered(SUMS, "a", [1, 0, 0, 255]), [1])
        row = grammar(2, (0, 1, "b"), (1,), (0, "b"))
        self.assertEqual(self.answered(row, "b", [1, 1, 98, 98], [1, 0, 98, 98], [1, 1, 97, 97]), [0, 1, 1])

    def test_words(self):
        self.assertEqual(self.answered(SUMS, "a+a", [2, 0, 1, 97], [2, 0, 1, 43], [2, 0, 3, 97, 43, 97], [2, 0, 0]),
                         [0, 1, 0, 1])
        row = grammar(2, (0, 1, "b", 1), (1,))
        self.assertEqual(self.answered(row, "b", [2, 1, 0], [2, 0, 0], [2, 0, 1, 98], [2, 1, 1, 98]), [0, 1, 0, 1])

    def test_no_trees(self):
        """None of none."""
        self.assertEqual(self.answered(SUMS, "b", [0, 0, 0, 0], [1, 0, 0, 255], [2, 0, 1, 98]), [1, 1, 1])
        self.assertEqual(self.answered(SUMS, "a+", [1, 0, 43, 43], [2, 0, 1, 97]), [1, 1])
        self.assertEqual(ask(sift(filters([2, 0, 0])), idle(0)), [[0], [0, 1]])

    def test_each_filter_by_itself(self):
        """What other filters let pass has no share in it."""
        all_out = [2, 0, 1, 97]
        self.assertEqual(self.answered(SUMS, "a+a+a", all_out, [0, 0, 2, 0], [0, 0, 0, 0], [2, 0, 1, 98]), [0, 0, 0, 1])
        self.assertEqual(self.answered(SUMS, "a+a+a", [0, 0, 2, 0], [0, 0, 2, 0]), [0, 0])

    def test_the_start_alone(self):
        row = grammar(3, (0, "a"), (0, 1, "b"), (1, "a"), (2, 1), (2, 1))
        # Nonterminal 1 covers the text, but no tree of the start has it there.
        self.assertEqual(self.answered(row, "a", [2, 1, 1, 97], [2, 2, 1, 97], [0, 3, 0, 2], [0, 1, 0, 2]), [1, 1, 1, 1])
        self.assertEqual(self.answered(row, "ab", [2, 1, 1, 97], [2, 2, 1, 97], [0, 3, 0, 2], [0, 1, 0, 2]), [0, 1, 1, 0])

    def test_the_whole_text_alone(self):
        row = grammar(1, (0, "a", 0), (0, "a"), (0, "b"))
        # The start covers pieces within the text, but only those up to its end stand in a tree.
        self.assertEqual(self.answered(row, "aaab", [2, 0, 2, 97, 97], [2, 0, 1, 98], [2, 0, 2, 97, 98]), [1, 0, 0])
        self.assertEqual(self.answered(row, "aaab", [0, 0, 1, 1], [0, 0, 1, 2], [0, 0, 1, 0]), [1, 0, 0])

    def test_what_stands_before_and_behind_must_fit(self):
        row = grammar(3, (0, 1, 2), (1, "a"), (1, "a", "a"), (2, "a"), (2, "b", "a"), (1,))
        # Of the pieces that 1 covers only those count behind which 2 covers what is left.
        self.assertEqual(self.answered(row, "aa", [0, 0, 0, 1], [0, 0, 0, 2], [0, 0, 0, 5], [2, 1, 2, 97, 97]), [0, 1, 1, 1])
        self.assertEqual(self.answered(row, "aba", [0, 0, 0, 1], [0, 0, 1, 3], [0, 0, 1, 4], [2, 2, 1, 97]), [0, 1, 0, 1])

    def test_a_child_over_another_piece(self):
        """The forbidden rule stands in a tree, and other rules at that symbol, but not it there."""
        row = grammar(2, (0, 1, "+", 1), (1, "a"), (1, "b"))
        self.assertEqual(self.answered(row, "a+b", [0, 0, 0, 1], [0, 0, 0, 2], [0, 0, 2, 1], [0, 0, 2, 2]), [0, 1, 1, 0])

    def test_one_tree_of_many(self):
        row = grammar(2, (0, 0, 0), (0, "a"), (0, 1), (1,) + ("a",) * 8)
        self.assertEqual(self.answered(row, "a" * 8, [2, 1, 8] + [97] * 8, [2, 1, 7] + [97] * 7, [0, 0, 0, 2],
                                       [0, 0, 1, 2]), [0, 1, 1, 1])
        self.assertEqual(self.answered(row, "a" * 9, [0, 0, 0, 2], [0, 0, 1, 2]), [0, 0])

    def test_more_than_ten_to_the_sixtieth(self):
        """Both are more than are counted, and still not as many."""
        rules = [(k,) + (k + 1,) * 8 for k in range(19)] + [(19,), (19,)]
        row = grammar(20, *rules)
        held = [load(row), sift(filters([0, 18, 7, 20], [0, 18, 0, 19], [2, 19, 1, 97], [1, 0, 0, 255]))]
        self.assertEqual(ask(*held, idle(0), idle(1), idle(2), idle(3))[2:], [[0, 0], [0, 0], [0, 1], [0, 1]])
        for f in [0, 1]:
            alone = filters([[0, 18, 7, 20], [0, 18, 0, 19]][f])
            self.assertEqual(ask(load(row), count(0, 0, 0), sift(alone), count(0, 0, 0)), [[0], [0, BIG], [0], [0, BIG]])

    def test_one_tree_of_more_than_ten_to_the_sixtieth(self):
        """A chain of products with 10^64 trees, and one tree beside them."""
        row = grammar(5, (0, 1), (0, 4), (1,) + (2,) * 8, (2,) + (3,) * 8, (4, "x"), (4,), *[(3,)] * 10)
        held = [load(row), sift(filters([0, 1, 0, 5], [0, 1, 0, 4], [2, 4, 0], [2, 4, 1, 120], [0, 3, 7, 15]))]
        told = ask(*held, count(0, 0, 0), *[idle(f) for f in range(5)])
        self.assertEqual(told[2:], [[0, BIG], [0, 0], [0, 1], [0, 0], [0, 1], [0, 0]])

    def test_exactly_ten_to_the_sixtieth(self):
        row = grammar(5, (0, 1, 1, 1, 1, 1, 1), (1, 2, 2), (2, 3, 3, 3, 3, 3), *[(3,)] * 10, (4,))
        told = ask(load(row), sift(filters([0, 2, 0, 3], [2, 4, 0])), idle(0), idle(1))
        self.assertEqual(told[2:], [[0, 0], [0, 1]])

    def test_long_texts_with_many_trees(self):
        rules = [(0, 0, 0)] * 30 + [(0, "a")] * 29 + [(1, "a")]
        row = grammar(2, *rules)
        told = ask(load(row), text("a" * 24), sift(filters([0, 0, 0, 1], [0, 7, 1, 40], [2, 1, 1, 97], [2, 0, 1, 97],
                                                           [1, 0, 97, 97], [1, 1, 97, 97], [2, 0, 1, 98])),
                   *[idle(f) for f in range(7)])
        self.assertEqual([one[1] for one in told[3:]], [0, 0, 1, 0, 0, 1, 1])


class IdleWithInfinitelyMany(unittest.TestCase):

    def answered(self, row, some, *sieves):
        return [one[1] for one in ask(load(row), text(some), sift(filters(*sieves)),
                                      *[idle(f) for f in range(len(sieves))])[3:]]

    def test_finitely_many_pass(self):
        sieves = [[0, 0, 0, 0], [0, 0, 0, 1], [2, 0, 1, 97]]
        self.assertEqual(self.answered(LOOP, "a", *sieves), [0, 0, 0])
        self.assertEqual(self.answered(LOOP, "b", *sieves), [1, 1, 1])

    def test_finitely_many_but_more_than_ten_to_the_sixtieth_pass(self):
        row = grammar(4, (0, 1), (1,) + (2,) * 8, (2,) + (3,) * 8, *[(3,)] * 10, (0, 0))
        held = [load(row), sift(filters([0, 13, 0, 13], [0, 13, 0, 0])), count(0, 0, 0), idle(0), idle(1)]
        self.assertEqual(ask(*held)[2:], [[0, BIG], [0, 0], [0, 0]])

    def test_all_pass(self):
        self.assertEqual(self.answered(LOOP, "a", [2, 0, 1, 98], [1, 0, 0, 255], [2, 0, 0]), [1, 1, 1])

    def test_some_break_it_but_infinitely_many_pass(self):
        row = grammar(1, (0, 0), (0, 0), (0, "a"))
        self.assertEqual(self.answered(row, "a", [0, 0, 0, 0], [0, 1, 0, 1], [0, 0, 0, 1], [0, 1, 0, 2]), [1, 1, 1, 1])
        both = grammar(2, (0, 0), (0, "a"), (0, 1), (1, "a"))
        self.assertEqual(self.answered(both, "a", [2, 1, 1, 97], [0, 2, 0, 3], [0, 0, 0, 1], [0, 0, 0, 0]), [1, 1, 1, 0])

    def test_two_ways_round_of_which_one_is_left(self):
        row = grammar(3, (0, 1, 2), (1, 1), (1,), (2, 2), (2,))
        sieves = [[0, 1, 0, 1], [0, 3, 0, 3], [2, 1, 0], [2, 2, 0], [0, 0, 0, 1]]
        self.assertEqual(self.answered(row, "", *sieves), [1, 1, 0, 0, 1])

    def test_pieces_without_bytes(self):
        row = grammar(1, (0, 0, 0), (0,), (0, "a"))
        sieves = [[2, 0, 0], [0, 0, 0, 1], [0, 0, 1, 1], [0, 0, 0, 0], [2, 0, 1, 97], [1, 0, 97, 97]]
        # Followed by an a stands only what is left of it: what is right of it still grows without end.
        self.assertEqual(self.answered(row, "a", *sieves), [0, 1, 1, 1, 0, 1])

    def test_each_filter_by_itself(self):
        """Together they let finitely many pass."""
        row = grammar(1, (0, 0), (0, 0), (0, "a"))
        sieves = [[0, 0, 0, 0], [0, 1, 0, 1], [0, 0, 0, 1]]
        self.assertEqual(self.answered(row, "a", *sieves), [1, 1, 1])
        self.assertEqual(last(load(row), text("a"), sift(filters(*sieves)), count(0, 0, 1)), [0, 4])

    def test_infinitely_many_trees_elsewhere(self):
        """Of another nonterminal, or over another piece: the start has finitely many over the whole text."""
        row = grammar(2, (0, "a"), (0, "a", "b"), (1, 1), (1, "a"))
        self.assertEqual(self.answered(row, "a", [2, 0, 1, 97], [0, 2, 0, 2], [2, 1, 1, 97]), [0, 1, 1])
        row = grammar(2, (0, 1), (1, 1), (1, "a"), (0, "a", "b"))
        self.assertEqual(self.answered(row, "ab", [2, 0, 2, 97, 98], [2, 1, 1, 97], [0, 0, 0, 2], [1, 0, 98, 98]),
                         [0, 1, 1, 1])


class WhatIsHeld(unittest.TestCase):

    def test_the_grammar_the_text_and_the_filters_of_now(self):
        right, other = filters([0, 0, 2, 0]), filters([2, 0, 1, 97], [0, 0, 2, 0])
        told = ask(load(SUMS), text("a+a+a"), sift(right), idle(0), text("a+a"), idle(0), sift(other), idle(0), idle(1),
                   text("a+a+a"), idle(1), load(SUMS), idle(0), sift(other), idle(1),
                   load(grammar(1, (0, 0, "+", 0), (0, "b"))), sift(other), idle(0), idle(1))
        picked = [told[at] for at in [3, 5, 7, 8, 10, 12, 14, 17, 18]]
        self.assertEqual(picked, [[0, 0], [0, 1], [0, 0], [0, 1], [0, 0], [-10], [0, 0], [0, 1], [0, 1]])

    def test_behind_refusals(self):
        held = [load(SUMS), text("a+a+a"), sift(filters([0, 0, 2, 0]))]
        for call in [load([]), text([256]), text([97] * 25), sift([5]), sift([-1])]:
            told = ask(*held, idle(0), call, idle(0), idle(1))
            self.assertEqual([told[3]] + told[5:], [[0, 0], [0, 0], [-10]])

    def test_the_object_stays(self):
        told = ask(load(SUMS), text("a+a+a"), sift(filters([2, 0, 1, 98], [0, 0, 2, 0])), idle(0), count(0, 0, 5),
                   idle(1), count(0, 0, 5), tree(0, 0, 5, 0), reads(), held_filters())
        self.assertEqual(told[3:7], [[0, 1], [0, 1], [0, 0], [0, 1]])
        self.assertEqual(told[7][:5], [0, 5, 0, 0, 5])
        self.assertEqual(told[8:], [[0, 1], [0] + filters([2, 0, 1, 98], [0, 0, 2, 0])])


if __name__ == "__main__":
    unittest.main()
