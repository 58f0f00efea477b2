"""Promise 5: the refusals of a nonterminal and a piece, and count."""

import unittest

from talk import SUMS, ask, count, filters, grammar, last, load, sift, text, tree

BIG = 10 ** 60
FAR = 10 ** 18


def near_big(*more):
    """A grammar of 30 rules with 10^60 - 1 trees of the start over no bytes; and the rules that are given."""
    ten, three, two, five, four = 1, 2, 3, 4, 5
    near_ten_5, third, near_ten_15, near_ten_30, forty_one, other = 6, 7, 8, 9, 10, 11
    rules = [(0, near_ten_5, third, near_ten_15, near_ten_30)]
    rules += [(ten,)] * 10 + [(three,)] * 3 + [(two,)] * 2
    rules += [(five,) + (ten,) * 5, (four, two, two)]
    # 41 times 271 times 9 is 10^5 - 1.
    rules += [(forty_one, ten, four), (forty_one,), (other, ten, three, three, three), (other,)]
    rules += [(near_ten_5, three, three, forty_one, other)]
    rules += [(third, five, five), (third, five), (third,)]
    rules += [(near_ten_15, five, five, five), (near_ten_15,)]
    rules += [(near_ten_30,) + (five,) * 6, (near_ten_30,)]
    return grammar(12, *rules, *more)


class Refusals(unittest.TestCase):

    def answered(self, a, i, j):
        told = ask(load(grammar(2, (0, 1), (1, "a"))), text("aaa"), count(a, i, j), tree(a, i, j, -1))
        return [told[2], told[3]]

    def test_no_nonterminal(self):
        for a in [-1, 2, 3, FAR, -FAR]:
            self.assertEqual(self.answered(a, 0, 1), [[-4], [-4]])
        self.assertEqual(self.answered(1, 0, 1), [[0, 1], [-7]])

    def test_no_piece(self):
        for i, j in [(-1, 0), (-1, -1), (2, 1), (0, 4), (4, 4), (3, 2), (0, FAR), (-FAR, 0), (FAR, -FAR), (0, -1)]:
            self.assertEqual(self.answered(0, i, j), [[-5], [-5]])
        for i, j in [(0, 0), (3, 3), (0, 3), (2, 2)]:
            self.assertEqual(self.answered(0, i, j), [[0, 0], [-7]])

    def test_the_nonterminal_comes_first(self):
        for i, j in [(-1, 0), (2, 1), (0, 4)]:
            self.assertEqual(self.answered(2, i, j), [[-4], [-4]])
            self.assertEqual(self.answered(-1, i, j), [[-4], [-4]])

    def test_the_new_object(self):
        self.assertEqual(ask(count(0, 0, 0), count(1, 0, 0), count(0, 0, 1), count(1, 0, 1)), [[0, 0], [-4], [-5], [-4]])


class Counts(unittest.TestCase):

    def counted(self, row, some, sieves=(0,), a=0):
        return last(load(row), text(some), sift(list(sieves)), count(a, 0, len(some)))

    def test_few(self):
        for some, expected in [("", 0), ("a", 1), ("a+", 0), ("a+a", 1), ("a+a+a", 2), ("a+a+a+a", 5)]:
            self.assertEqual(self.counted(SUMS, some), [0, expected])

    def test_parts_of_the_text(self):
        told = ask(load(SUMS), text("a+a+a"), count(0, 0, 3), count(0, 2, 5), count(0, 1, 4), count(0, 2, 2))
        self.assertEqual(told[2:], [[0, 1], [0, 1], [0, 0], [0, 0]])

    def test_other_nonterminals_and_the_same_rules(self):
        row = grammar(3, (2, 1, 1), (2, 1, 1), (1, "a"), (1, "a"), (1, (0, 255)))
        self.assertEqual(self.counted(row, "aa", a=2), [0, 18])
        self.assertEqual(self.counted(row, "ab", a=2), [0, 6])
        self.assertEqual(self.counted(row, "aa", a=0), [0, 0])

    def test_all_binary_trees(self):
        """The Catalan numbers."""
        row = grammar(1, (0, 0, 0), (0, "a"))
        self.assertEqual(self.counted(row, "a" * 24), [0, 343059613650])

    def test_long_rules(self):
        row = grammar(2, (0,) + (1,) * 8, (1, "a", 1), (1,))
        # The ways to part 24 bytes into 8 pieces.
        self.assertEqual(self.counted(row, "a" * 24), [0, 2629575])

    def test_about_ten_to_the_sixtieth(self):
        self.assertEqual(self.counted(near_big(), ""), [0, BIG - 1])
        self.assertEqual(self.counted(near_big((0,)), ""), [0, BIG])
        self.assertEqual(self.counted(near_big((0,), (0,)), ""), [0, BIG])
        self.assertEqual(self.counted(near_big((0, 0), (0,)), "", filters([0, 30, 0, 0], [0, 30, 0, 30])), [0, BIG])
        self.assertEqual(self.counted(near_big((0, 0)), "", filters([0, 30, 0, 0], [0, 30, 0, 30])), [0, BIG - 1])

    def test_exactly_ten_to_the_sixtieth(self):
        row = grammar(4, (0, 1, 1, 1, 1, 1, 1), (1, 2, 2), (2, 3, 3, 3, 3, 3), *[(3,)] * 10)
        self.assertEqual(self.counted(row, ""), [0, BIG])

    def test_far_beyond(self):
        rules = [(k,) + (k + 1,) * 8 for k in range(19)] + [(19,), (19,)]
        self.assertEqual(self.counted(grammar(20, *rules), ""), [0, BIG])
        rules = [(0, 0, 0)] * 40 + [(0, "a")] * 20
        self.assertEqual(self.counted(grammar(1, *rules), "a" * 24), [0, BIG])
        self.assertEqual(self.counted(grammar(1, *rules), "a" * 24, filters([2, 0, 1, 97])), [0, 0])

    def test_many_times_none(self):
        rules = [(0, 1, 2)] + [(1, 3, 3, 3, 3, 3, 3, 3, 3)] * 2 + [(3, 4, 4, 4, 4, 4, 4, 4, 4)] * 2 + [(4,)] * 10
        self.assertEqual(self.counted(grammar(5, *rules), ""), [0, 0])
        self.assertEqual(self.counted(grammar(5, *rules), "", a=1), [0, BIG])

    def test_infinitely_many(self):
        for row, some in [
                (grammar(1, (0, 0), (0, "a")), "a"),
                (grammar(2, (0, 1), (1, 0), (1, "a")), "a"),
                (grammar(1, (0, 0, 0), (0,)), ""),
                (grammar(1, (0, 0, 0), (0,), (0, "a")), "a"),
                (grammar(2, (0, 1, 0, 1), (1,), (0, "a")), "a"),
                (grammar(2, (0, "a", 1), (1, 1), (1,)), "a"),
                (grammar(3, (0, 1, 2), (1, 1), (1,), (2, "a")), "a"),
                (grammar(20, *[(k, (k + 1) % 20) for k in range(20)], (7, "a")), "a")]:
            self.assertEqual(self.counted(row, some), [1])

    def test_infinitely_many_beneath_what_is_far_beyond(self):
        rules = [(k,) + (k + 1,) * 8 for k in range(18)] + [(18,), (18,), (18, 19), (19, 19), (19,)]
        self.assertEqual(self.counted(grammar(20, *rules), ""), [1])

    def test_infinitely_many_times_none(self):
        """A way round that ends nowhere, and one beside what covers nothing."""
        self.assertEqual(self.counted(grammar(1, (0, 0)), ""), [0, 0])
        row = grammar(4, (0, 1, 2), (1, 1), (1,), (2, 2), (0, "a"))
        self.assertEqual(self.counted(row, ""), [0, 0])
        self.assertEqual(self.counted(row, "", a=1), [1])
        self.assertEqual(self.counted(row, "a"), [0, 1])
        self.assertEqual(self.counted(grammar(1, (0, 0, "a"), (0, "a")), "aa"), [0, 1])

    def test_infinitely_many_over_another_piece_alone(self):
        row = grammar(2, (0, 1, "a"), (1, 1), (1, "b"), (1,))
        self.assertEqual(self.counted(row, "a"), [1])
        row = grammar(2, (0, 1, "a"), (1, 1, "b"), (1, "b"), (1, 0, 1))
        self.assertEqual(self.counted(row, "bba"), [0, 1])

    def test_infinitely_many_of_which_finitely_many_pass(self):
        row = grammar(1, (0, 0), (0, "a"))
        self.assertEqual(self.counted(row, "a"), [1])
        self.assertEqual(self.counted(row, "a", filters([0, 0, 0, 0])), [0, 2])
        self.assertEqual(self.counted(row, "a", filters([2, 0, 1, 97])), [0, 0])
        row = grammar(2, (0, 1), (1, 0), (0, "a"))
        self.assertEqual(self.counted(row, "a", filters([0, 1, 0, 0])), [0, 2])
        self.assertEqual(self.counted(row, "a", filters([2, 1, 1, 97])), [0, 1])
        row = grammar(1, (0, 0, 0), (0,), (0, "a"))
        self.assertEqual(self.counted(row, "aa", filters([2, 0, 0])), [0, 1])
        row = grammar(1, (0, 0), (0, "a"), (0, "b"))
        # Only what is left of the way round counts: here rule 0 above rule 2 is all that is left of it.
        self.assertEqual(self.counted(row, "b", filters([0, 0, 0, 0])), [0, 2])

    def test_infinitely_many_still_pass(self):
        row = grammar(1, (0, 0), (0, "a"))
        self.assertEqual(self.counted(row, "a", filters([0, 0, 0, 1])), [0, 1])
        row = grammar(1, (0, 0), (0, 0), (0, "a"))
        self.assertEqual(self.counted(row, "a", filters([0, 0, 0, 0])), [1])
        self.assertEqual(self.counted(row, "a", filters([0, 0, 0, 0], [0, 1, 0, 1])), [1])
        all_ways = filters([0, 0, 0, 0], [0, 1, 0, 1], [0, 0, 0, 1])
        self.assertEqual(self.counted(row, "a", all_ways), [0, 4])
        row = grammar(1, (0, 0, 0), (0,), (0, "a"))
        self.assertEqual(self.counted(row, "a", filters([0, 0, 0, 1])), [1])
        self.assertEqual(self.counted(row, "a", filters([0, 0, 0, 1], [0, 0, 1, 1])), [0, 1])

    def test_one_nonterminal_twice_over_a_piece_is_not_yet_infinitely_many(self):
        """What is forbidden may let a nonterminal stand beneath itself, but no rule beneath itself."""
        row = grammar(1, (0, 0), (0, 0), (0, 0), (0, "a"))
        down = [[0, r, 0, s] for r in range(3) for s in range(3) if s <= r]
        self.assertEqual(self.counted(row, "a", filters(*down)), [0, 8])


if __name__ == "__main__":
    unittest.main()
