"""Promise 6: tree."""

import unittest

from talk import SUMS, ask, count, filters, grammar, last, load, sift, text, tree

FAR = 10 ** 18


def sizes():
    """Rules without bytes: nonterminal 0 has a tree of 501 nodes, nonterminal 1 one of 500."""
    leaf, nine, ten, seventy_three, sixty_one = 2, 3, 4, 5, 6
    return grammar(7, (0, 1), (1,) + (seventy_three,) * 6 + (sixty_one,), (leaf,), (nine,) + (leaf,) * 8,
                   (ten, nine), (seventy_three,) + (nine,) * 8, (sixty_one,) + (ten,) * 6)


class Trees(unittest.TestCase):

    def listed(self, row, some, sieves=(0,), a=0):
        """All trees over the whole text, each as a list of its nodes."""
        held = [load(row), text(some), sift(list(sieves))]
        answered = last(*held, count(a, 0, len(some)))
        self.assertEqual(answered[0], 0)
        told = ask(*held, *[tree(a, 0, len(some), k) for k in range(answered[1] + 1)])
        self.assertEqual(told[-1], [-7])
        found = []
        for one in told[3:-1]:
            self.assertEqual(one[0], 0)
            self.assertEqual(len(one), 2 + 3 * one[1])
            found.append([tuple(one[at:at + 3]) for at in range(2, len(one), 3)])
        return found

    def roots(self, row, some, sieves=(0,)):
        """Of each tree the rules alone, in the order of its nodes."""
        return [[node[0] for node in nodes] for nodes in self.listed(row, some, sieves)]

    def test_sums_in_their_order(self):
        self.assertEqual(self.listed(SUMS, "a"), [[(1, 0, 1)]])
        self.assertEqual(self.listed(SUMS, "a+a"), [[(0, 0, 3), (1, 0, 1), (1, 2, 3)]])
        self.assertEqual(self.listed(SUMS, "a+a+a"), [
            [(0, 0, 5), (1, 0, 1), (0, 2, 5), (1, 2, 3), (1, 4, 5)],
            [(0, 0, 5), (0, 0, 3), (1, 0, 1), (1, 2, 3), (1, 4, 5)]])
        leaves = [(1, 0, 1), (1, 2, 3), (1, 4, 5), (1, 6, 7)]
        self.assertEqual(self.listed(SUMS, "a+a+a+a"), [
            [(0, 0, 7), leaves[0], (0, 2, 7), leaves[1], (0, 4, 7), leaves[2], leaves[3]],
            [(0, 0, 7), leaves[0], (0, 2, 7), (0, 2, 5), leaves[1], leaves[2], leaves[3]],
            [(0, 0, 7), (0, 0, 3), leaves[0], leaves[1], (0, 4, 7), leaves[2], leaves[3]],
            [(0, 0, 7), (0, 0, 5), leaves[0], (0, 2, 5), leaves[1], leaves[2], leaves[3]],
            [(0, 0, 7), (0, 0, 5), (0, 0, 3), leaves[0], leaves[1], leaves[2], leaves[3]]])

    def test_sums_that_pass(self):
        """Those that pass keep the order that they have among all trees."""
        every = self.listed(SUMS, "a+a+a+a")
        self.assertEqual(self.listed(SUMS, "a+a+a+a", filters([0, 0, 2, 0])), [every[4]])
        self.assertEqual(self.listed(SUMS, "a+a+a+a", filters([0, 0, 0, 0])), [every[0]])
        # No sum may stand for the middle two operands.
        middle = [97, 43, 97]
        self.assertEqual(self.listed(SUMS, "a+a+a+a", filters([2, 0, 3] + middle)), [])
        self.assertEqual(self.listed(SUMS, "a+b", filters([0, 0, 2, 0])), [])
        self.assertEqual(self.listed(SUMS, "a+a+a+a", filters([2, 0, 5] + middle + [43, 97])), [every[2]])

    def test_by_the_rule_of_the_root(self):
        row = grammar(2, (1, "a"), (0, 1, 0), (0, "a"), (0,), (0, "a"))
        # Rule 1 takes the byte for its first child; 2 and 4 take it themselves.
        self.assertEqual(self.roots(row, "a"), [[1, 0, 3], [2], [4]])

    def test_by_the_first_piece_before_the_first_tree(self):
        """A shorter first child comes first, whatever its rule is."""
        row = grammar(3, (0, 1, 2), (1, "a", "a"), (1, "a"), (2, "a", "a"), (2, "a"), (1,), (2, "a", "a", "a"))
        self.assertEqual(self.listed(row, "aaa"), [
            [(0, 0, 3), (5, 0, 0), (6, 0, 3)],
            [(0, 0, 3), (2, 0, 1), (3, 1, 3)],
            [(0, 0, 3), (1, 0, 2), (4, 2, 3)]])

    def test_by_the_first_tree_before_the_second_piece(self):
        row = grammar(4, (0, 1, 2, 3), (1, "a"), (1, "a"), (2,), (2, "a"), (3, "a"), (3,))
        self.assertEqual(self.roots(row, "aa"), [[0, 1, 3, 5], [0, 1, 4, 6], [0, 2, 3, 5], [0, 2, 4, 6]])

    def test_by_the_second_tree_last(self):
        row = grammar(3, (0, 1, "+", 2), (1, "a"), (1, "a"), (2, "b"), (2, "b"))
        self.assertEqual(self.roots(row, "a+b"), [[0, 1, 3], [0, 1, 4], [0, 2, 3], [0, 2, 4]])
        self.assertEqual(self.roots(row, "a+b", filters([0, 0, 0, 1])), [[0, 2, 3], [0, 2, 4]])
        self.assertEqual(self.roots(row, "a+b", filters([0, 0, 2, 3])), [[0, 1, 4], [0, 2, 4]])

    def test_the_same_rule_twice(self):
        self.assertEqual(self.roots(grammar(1, (0, "a"), (0, "a")), "a"), [[0], [1]])

    def test_pieces_without_bytes(self):
        row = grammar(3, (0, 1, "a", 2), (1,), (2, 1, 1))
        self.assertEqual(self.listed(row, "a"), [[(0, 0, 1), (1, 0, 0), (2, 1, 1), (1, 1, 1), (1, 1, 1)]])

    def test_a_piece_within_the_text(self):
        told = ask(load(SUMS), text("+a+a+"), tree(0, 1, 4, 0), tree(0, 3, 4, 0), tree(0, 0, 5, 0))
        self.assertEqual(told[2:], [[0, 3, 0, 1, 4, 1, 1, 2, 1, 3, 4], [0, 1, 1, 3, 4], [-7]])

    def test_another_nonterminal(self):
        row = grammar(2, (0, "b"), (1, "a"))
        self.assertEqual(last(load(row), text("a"), tree(1, 0, 1, 0)), [0, 1, 1, 0, 1])

    def test_followed_and_words(self):
        row = grammar(2, (0, 1, 0), (0, 1), (1, (97, 122), 1), (1, (97, 122)))
        every = self.listed(row, "if")
        self.assertEqual([nodes[0][0] for nodes in every], [0, 1])
        self.assertEqual(self.listed(row, "if", filters([1, 1, 97, 122])), [every[1]])
        self.assertEqual(self.listed(row, "if", filters([2, 1, 2, 105, 102])), [every[0]])
        self.assertEqual(self.listed(row, "if", filters([2, 1, 2, 105, 102], [1, 1, 97, 122])), [])

    def test_finitely_many_of_infinitely_many(self):
        row = grammar(1, (0, 0), (0, "a"), (0, 0))
        few = filters([0, 0, 0, 0], [0, 2, 0, 2], [0, 2, 0, 0])
        self.assertEqual(self.roots(row, "a", few), [[0, 1], [0, 2, 1], [1], [2, 1]])


class Refusals(unittest.TestCase):

    def test_infinitely_many(self):
        row = grammar(1, (0, 0), (0, "a"))
        for k in [0, 5, -1, FAR, -FAR]:
            self.assertEqual(last(load(row), text("a"), tree(0, 0, 1, k)), [-6])
        told = ask(load(row), text("a"), sift(filters([0, 0, 0, 0])), tree(0, 0, 1, 0), tree(0, 0, 1, 1),
                   tree(0, 0, 1, 2))
        self.assertEqual(told[3:], [[0, 2, 0, 0, 1, 1, 0, 1], [0, 1, 1, 0, 1], [-7]])

    def test_no_such_tree(self):
        for k in [-1, 2, 3, FAR, -FAR]:
            self.assertEqual(last(load(SUMS), text("a+a+a"), tree(0, 0, 5, k)), [-7])
        self.assertEqual(ask(tree(0, 0, 0, 0), tree(0, 0, 0, -1)), [[-7], [-7]])
        self.assertEqual(last(load(SUMS), text("a+a+a"), sift(filters([0, 0, 2, 0])), tree(0, 0, 5, 1)), [-7])

    def test_the_nonterminal_and_the_piece_come_first(self):
        row = grammar(1, (0, 0), (0, "a"))
        told = ask(load(row), text("a"), tree(1, 0, 1, 0), tree(1, 5, 1, -1), tree(0, 0, 2, -1), tree(0, 0, 0, -1))
        self.assertEqual(told[2:], [[-4], [-4], [-5], [-7]])

    def test_five_hundred_nodes(self):
        answered = last(load(sizes()), tree(1, 0, 0, 0))
        self.assertEqual(answered[:5], [0, 500, 1, 0, 0])
        self.assertEqual(len(answered), 1502)

    def test_more_than_five_hundred_nodes(self):
        self.assertEqual(ask(load(sizes()), count(0, 0, 0), tree(0, 0, 0, 0), tree(0, 0, 0, 1), tree(0, 0, 0, -1)),
                         [[0], [0, 1], [-8], [-7], [-7]])

    def test_some_trees_are_too_large(self):
        row = sizes()
        row = [row[0], row[1] + 1] + row[2:] + [0, 0]
        told = ask(load(row), tree(0, 0, 0, 0), tree(0, 0, 0, 1), tree(0, 0, 0, 2))
        self.assertEqual(told[1:], [[-8], [0, 1, 7, 0, 0], [-7]])

    def test_far_more_nodes(self):
        """8 to the 19th leaves, and more trees than can be counted."""
        rules = [(k,) + (k + 1,) * 8 for k in range(19)] + [(19,), (19,)]
        told = ask(load(grammar(20, *rules)), tree(0, 0, 0, 0), tree(0, 0, 0, FAR), tree(18, 0, 0, 5))
        self.assertEqual(told[1:3], [[-8], [-8]])
        # The last of the eight leaves changes first.
        self.assertEqual(told[3][2::3], [18, 19, 19, 19, 19, 19, 20, 19, 20])

    def test_a_high_number(self):
        """10^18 in the digits of ten leaves' rules, where there are as many trees as 10^60 or more."""
        row = grammar(3, (0,) + (1,) * 8, (1,) + (2,) * 8, *[(2,)] * 10)
        answered = last(load(row), tree(0, 0, 0, FAR - 1))
        leaves = [r - 2 for r in answered[2::3] if r >= 2]
        self.assertEqual(leaves, [0] * 46 + [9] * 18)
        answered = last(load(row), count(0, 0, 0), tree(0, 0, 0, FAR))
        self.assertEqual([r - 2 for r in answered[2::3] if r >= 2], [0] * 45 + [1] + [0] * 18)


if __name__ == "__main__":
    unittest.main()
