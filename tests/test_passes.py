"""Promises 5 and 7: passes."""

import unittest

from talk import SUMS, ask, count, filters, grammar, held_filters, last, load, passes, sift, text, tree

FAR = 10 ** 18

LEFT = [0, 0, 5, 0, 0, 3, 1, 0, 1, 1, 2, 3, 1, 4, 5]
RIGHT = [0, 0, 5, 1, 0, 1, 0, 2, 5, 1, 2, 3, 1, 4, 5]

# 0 -> nothing | 0 0: trees without bytes of every odd number of nodes.
EMPTY = grammar(1, (0,), (0, 0, 0))


def comb(leaves):
    """The nodes of a tree of EMPTY, each first child a leaf: as deep as there are leaves."""
    return [1, 0, 0, 0, 0, 0] * (leaves - 1) + [0, 0, 0]


def left_comb(leaves):
    return [1, 0, 0] * (leaves - 1) + [0, 0, 0] * leaves


class Refusals(unittest.TestCase):

    def answered(self, a, i, j, nodes):
        """What is answered; and where that is a refusal, the object is as it was."""
        held = [load(SUMS), text("a+a+a"), sift(filters([0, 0, 2, 0]))]
        told = ask(*held, passes(a, i, j, nodes), count(0, 0, 5), passes(0, 0, 5, RIGHT), held_filters(), count(0, 0, 6))
        self.assertEqual(told[4:], [[0, 1], [0, 2, 0], [0, 1, 0, 0, 2, 0], [-5]])
        return told[3]

    def test_no_nonterminal(self):
        for a in [-1, 1, 2, FAR, -FAR]:
            self.assertEqual(self.answered(a, 0, 5, LEFT), [-4])
        self.assertEqual(self.answered(0, 0, 5, LEFT), [0, 1])

    def test_no_piece(self):
        for i, j in [(-1, 5), (0, 6), (3, 2), (5, 4), (6, 6), (0, -1), (-FAR, FAR), (0, FAR), (FAR, FAR), (FAR, 0)]:
            self.assertEqual(self.answered(0, i, j, LEFT), [-5])
        for i, j in [(0, 0), (5, 5), (4, 5), (1, 4)]:
            self.assertEqual(self.answered(0, i, j, LEFT), [0, 0])

    def test_below_zero(self):
        for at in range(15):
            for number in [-1, -FAR]:
                self.assertEqual(self.answered(0, 0, 5, LEFT[:at] + [number] + LEFT[at + 1:]), [-1])

    def test_not_three_for_each_node(self):
        for length in range(1, 21):
            expected = [0, 0] if length % 3 == 0 else [-9]
            self.assertEqual(self.answered(0, 0, 5, [1] * length), expected)
        self.assertEqual(self.answered(0, 0, 5, LEFT[:-1]), [-9])
        self.assertEqual(self.answered(0, 0, 5, LEFT + [0]), [-9])
        self.assertEqual(self.answered(0, 0, 5, [7] * 2000), [-9])

    def test_how_many_nodes(self):
        self.assertEqual(self.answered(0, 0, 5, [0] * 1500), [0, 0])
        self.assertEqual(self.answered(0, 0, 5, [0] * 1499), [-9])
        self.assertEqual(self.answered(0, 0, 5, [0] * 1501), [-9])
        self.assertEqual(self.answered(0, 0, 5, [0] * 1503), [-9])
        self.assertEqual(self.answered(0, 0, 5, [0] * 1998), [-9])

    def test_trees_of_about_five_hundred_nodes(self):
        for nodes, expected in [(comb(250), [0, 1]), (left_comb(250), [0, 1]), (comb(251), [-9]), (left_comb(251), [-9])]:
            self.assertIn(len(nodes), [3 * 499, 3 * 501])
            self.assertEqual(last(load(EMPTY), passes(0, 0, 0, nodes)), expected)
        row = grammar(2, (1,), (1, 1, 1), (0, 1))
        self.assertEqual(last(load(row), passes(0, 0, 0, [2, 0, 0] + comb(250))), [0, 1])
        self.assertEqual(last(load(row), passes(0, 0, 0, [2, 0, 0] + comb(250)[:-3])), [0, 0])
        chain = grammar(1, (0, 0), (0,))
        self.assertEqual(last(load(chain), passes(0, 0, 0, [0, 0, 0] * 499 + [1, 0, 0])), [0, 1])
        self.assertEqual(last(load(chain), passes(0, 0, 0, [0, 0, 0] * 500 + [1, 0, 0])), [-9])

    def test_the_first_one_that_is_due(self):
        self.assertEqual(self.answered(1, 9, 9, [-1]), [-4])
        self.assertEqual(self.answered(-1, -1, -1, [0] * 1503), [-4])
        self.assertEqual(self.answered(0, 9, 9, [-1]), [-5])
        self.assertEqual(self.answered(0, 0, 6, [0] * 1503), [-5])
        self.assertEqual(self.answered(0, 0, 5, [-1]), [-1])
        self.assertEqual(self.answered(0, 0, 5, [0] * 1999 + [-1]), [-1])
        self.assertEqual(self.answered(0, 0, 5, [0] * 1502 + [-1]), [-1])

    def test_no_numbers(self):
        """No node is no tree, and no refusal."""
        self.assertEqual(self.answered(0, 0, 5, []), [0, 0])
        self.assertEqual(self.answered(0, 0, 0, []), [0, 0])
        self.assertEqual(ask(passes(0, 0, 0, []), load(EMPTY), passes(0, 0, 0, [])), [[0, 0], [0], [0, 0]])

    def test_the_new_object(self):
        told = ask(passes(0, 0, 0, [0, 0, 0]), passes(1, 0, 0, [0, 0, 0]), passes(0, 0, 1, [0, 0, 1]),
                   passes(0, 0, 0, [0, 0]), passes(0, 0, 0, [-1]))
        self.assertEqual(told, [[0, 0], [-4], [-5], [-9], [-1]])


class NoTrees(unittest.TestCase):

    def answered(self, nodes, row=SUMS, some="a+a+a", a=0, i=0, j=None):
        return last(load(row), text(some), passes(a, i, len(some) if j is None else j, nodes))

    def test_one_number_is_another(self):
        """Each number of each node is the only one that makes a tree there."""
        for nodes in [LEFT, RIGHT]:
            self.assertEqual(self.answered(nodes), [0, 1])
            for at in range(15):
                for number in [0, 1, 2, 3, 4, 5, 6, 24, 25, FAR]:
                    if number != nodes[at]:
                        changed = nodes[:at] + [number] + nodes[at + 1:]
                        self.assertEqual(self.answered(changed), [0, 0], changed)

    def test_nodes_too_few(self):
        for nodes in [LEFT, RIGHT]:
            for at in range(0, 15, 3):
                self.assertEqual(self.answered(nodes[:at] + nodes[at + 3:]), [0, 0])
                self.assertEqual(self.answered(nodes[:at]), [0, 0])

    def test_nodes_too_many(self):
        for nodes in [LEFT, RIGHT]:
            for at in range(0, 18, 3):
                for node in [[0, 0, 5], [1, 4, 5], [1, 0, 1], [1, 5, 5], [0, 5, 5], nodes[at:at + 3]]:
                    changed = nodes[:at] + node + nodes[at:]
                    if len(changed) > 15:
                        self.assertEqual(self.answered(changed), [0, 0], changed)

    def test_another_order(self):
        self.assertEqual(self.answered([0, 0, 5, 1, 4, 5, 0, 0, 3, 1, 0, 1, 1, 2, 3]), [0, 0])
        self.assertEqual(self.answered([0, 0, 5, 0, 0, 3, 1, 4, 5, 1, 0, 1, 1, 2, 3]), [0, 0])
        self.assertEqual(self.answered([1, 0, 1, 0, 0, 3, 1, 2, 3, 0, 0, 5, 1, 4, 5]), [0, 0])

    def test_rules_that_are_not_there(self):
        for r in [2, 3, 59, 60, FAR]:
            self.assertEqual(self.answered([r, 0, 1], some="a"), [0, 0])
        self.assertEqual(self.answered([1, 0, 1], some="a"), [0, 1])

    def test_another_nonterminal(self):
        row = grammar(3, (0, 1), (1, "a"), (2, "a"), (0, "a"))
        self.assertEqual(self.answered([0, 0, 1, 1, 0, 1], row, "a"), [0, 1])
        self.assertEqual(self.answered([0, 0, 1, 2, 0, 1], row, "a"), [0, 0])
        self.assertEqual(self.answered([0, 0, 1, 3, 0, 1], row, "a"), [0, 0])
        self.assertEqual(self.answered([3, 0, 1], row, "a"), [0, 1])
        self.assertEqual(self.answered([1, 0, 1], row, "a"), [0, 0])
        self.assertEqual(self.answered([1, 0, 1], row, "a", a=1), [0, 1])
        self.assertEqual(self.answered([2, 0, 1], row, "a", a=1), [0, 0])
        self.assertEqual(self.answered([2, 0, 1], row, "a", a=2), [0, 1])

    def test_another_text(self):
        for some in ["a+a-a", "a+a+b", "b+a+a", "aaaaa", "+++++", "a+a a"]:
            self.assertEqual(self.answered(LEFT, some=some), [0, 0])
            self.assertEqual(self.answered(RIGHT, some=some), [0, 0])

    def test_ranges_at_their_bounds(self):
        row = grammar(1, (0, (98, 100)))
        for some, expected in [("a", 0), ("b", 1), ("c", 1), ("d", 1), ("e", 0)]:
            self.assertEqual(self.answered([0, 0, 1], row, some), [0, expected])

    def test_ranges_behind_the_text_s_end(self):
        row = grammar(1, (0, "a", "a"), (0, "a"))
        self.assertEqual(self.answered([0, 0, 1], row, "a"), [0, 0])
        self.assertEqual(self.answered([0, 0, 2], row, "a"), [0, 0])
        self.assertEqual(self.answered([0, 0, 2], row, "aa"), [0, 1])
        self.assertEqual(self.answered([0, 0, 1], row, "aa", j=1), [0, 0])
        self.assertEqual(self.answered([0, 0, 2], row, "aa", j=1), [0, 0])
        self.assertEqual(self.answered([1, 0, 1], row, "aa", j=1), [0, 1])

    def test_a_node_ends_before_or_behind_its_symbols(self):
        row = grammar(2, (0, 1, 1), (1, "a", "a"), (1, "a"))
        self.assertEqual(self.answered([0, 0, 3, 1, 0, 2, 2, 2, 3], row, "aaa"), [0, 1])
        self.assertEqual(self.answered([0, 0, 3, 2, 0, 1, 1, 1, 3], row, "aaa"), [0, 1])
        for nodes in [[0, 0, 3, 1, 0, 1, 2, 1, 3], [0, 0, 3, 2, 0, 2, 1, 2, 3], [0, 0, 3, 2, 0, 2, 2, 2, 3],
                      [0, 0, 3, 1, 0, 2, 1, 1, 3], [0, 0, 2, 1, 0, 2, 2, 2, 3], [0, 0, 3, 2, 0, 1, 2, 1, 2]]:
            self.assertEqual(self.answered(nodes, row, "aaa"), [0, 0])

    def test_another_piece_is_asked_for(self):
        for i, j in [(0, 3), (0, 4), (2, 5), (5, 5), (0, 0), (1, 5)]:
            self.assertEqual(self.answered(LEFT, i=i, j=j), [0, 0])
        self.assertEqual(self.answered([0, 2, 5, 1, 2, 3, 1, 4, 5], i=2), [0, 1])
        self.assertEqual(self.answered([0, 2, 5, 1, 2, 3, 1, 4, 5]), [0, 0])
        self.assertEqual(self.answered([0, 0, 3, 1, 0, 1, 1, 2, 3], i=2), [0, 0])

    def test_no_tree_breaks_nothing(self):
        """A list that is no tree is none, also if its nodes break a filter."""
        told = ask(load(SUMS), text("a+a+a"), sift(filters([0, 0, 2, 0], [2, 0, 1, 97])),
                   passes(0, 0, 5, RIGHT[:-3]), passes(0, 0, 5, RIGHT + [1, 4, 5]), passes(0, 0, 5, RIGHT))
        self.assertEqual(told[3:], [[0, 0], [0, 0], [0, 2, 0]])


class WithoutBytes(unittest.TestCase):

    def test_pieces_without_bytes(self):
        row = grammar(3, (0, 1, "a", 2), (1,), (2, 1, 1))
        held = [load(row), text("a")]
        good = [0, 0, 1, 1, 0, 0, 2, 1, 1, 1, 1, 1, 1, 1, 1]
        self.assertEqual(last(*held, passes(0, 0, 1, good)), [0, 1])
        for at in range(15):
            for number in [0, 1, 2, 3]:
                if number != good[at]:
                    changed = good[:at] + [number] + good[at + 1:]
                    self.assertEqual(last(*held, passes(0, 0, 1, changed)), [0, 0])

    def test_at_every_place(self):
        for at in range(4):
            told = ask(load(EMPTY), text("xyz"), passes(0, at, at, [1, at, at, 0, at, at, 0, at, at]),
                       passes(0, at, at, [0, at, at]), passes(0, at, at, [0, at, at + 1]))
            self.assertEqual(told[2:], [[0, 1], [0, 1], [0, 0]])
        told = ask(load(EMPTY), text("xyz"), passes(0, 1, 1, [0, 2, 2]), passes(0, 0, 1, [0, 0, 1]),
                   passes(0, 0, 1, [0, 0, 0]))
        self.assertEqual(told[2:], [[0, 0], [0, 0], [0, 0]])

    def test_where_there_are_infinitely_many(self):
        row = grammar(1, (0, 0), (0, "a"))
        for length in [1, 2, 3, 100, 500]:
            nodes = [0, 0, 1] * (length - 1) + [1, 0, 1]
            told = ask(load(row), text("a"), passes(0, 0, 1, nodes), sift(filters([0, 0, 0, 0])), passes(0, 0, 1, nodes))
            self.assertEqual([told[2], told[4]], [[0, 1], [0, 1] if length < 3 else [0, 2, 0]])
        self.assertEqual(last(load(row), text("a"), passes(0, 0, 1, [0, 0, 1] * 500)), [0, 0])


class Filters(unittest.TestCase):

    def answered(self, row, some, sieves, nodes, a=0, i=0, j=None):
        j = len(some) if j is None else j
        return last(load(row), text(some), sift(filters(*sieves)), passes(a, i, j, nodes))

    def test_forbidden_children(self):
        self.assertEqual(self.answered(SUMS, "a+a+a", [[0, 0, 0, 0]], LEFT), [0, 2, 0])
        self.assertEqual(self.answered(SUMS, "a+a+a", [[0, 0, 0, 0]], RIGHT), [0, 1])
        self.assertEqual(self.answered(SUMS, "a+a+a", [[0, 0, 2, 0]], LEFT), [0, 1])
        self.assertEqual(self.answered(SUMS, "a+a+a", [[0, 0, 2, 0]], RIGHT), [0, 2, 0])
        for m in [0, 2]:
            self.assertEqual(self.answered(SUMS, "a+a+a", [[0, 0, m, 1]], LEFT), [0, 2, 0])

    def test_forbidden_grandchildren_are_none(self):
        row = grammar(2, (0, 1), (1, 1, "x"), (1, "x"))
        self.assertEqual(self.answered(row, "xx", [[0, 0, 0, 2]], [0, 0, 2, 1, 0, 2, 2, 0, 1]), [0, 1])
        self.assertEqual(self.answered(row, "xx", [[0, 1, 0, 2]], [0, 0, 2, 1, 0, 2, 2, 0, 1]), [0, 2, 0])
        self.assertEqual(self.answered(row, "x", [[0, 0, 0, 2]], [0, 0, 1, 2, 0, 1]), [0, 2, 0])

    def test_forbidden_children_deep_in_the_tree(self):
        row = grammar(3, (0, 1, 1), (1, 2, 2), (2, "x"), (2, "y"))
        nodes = [0, 0, 4, 1, 0, 2, 2, 0, 1, 2, 1, 2, 1, 2, 4, 2, 2, 3, 3, 3, 4]
        self.assertEqual(self.answered(row, "xxxy", [[0, 1, 1, 3]], nodes), [0, 2, 0])
        self.assertEqual(self.answered(row, "xxxy", [[0, 1, 0, 3]], nodes), [0, 1])

    def test_followed(self):
        self.assertEqual(self.answered(SUMS, "a+a+a", [[1, 0, 43, 43]], LEFT), [0, 2, 0])
        self.assertEqual(self.answered(SUMS, "a+a+a", [[1, 0, 97, 97]], LEFT), [0, 1])
        row = grammar(2, (0, 1, (0, 255)), (1, "a"))
        for byte, expected in [(49, [0, 1]), (50, [0, 2, 0]), (55, [0, 2, 0]), (60, [0, 2, 0]), (61, [0, 1])]:
            self.assertEqual(self.answered(row, [97, byte], [[1, 1, 50, 60]], [0, 0, 2, 1, 0, 1]), expected)
            self.assertEqual(self.answered(row, [97, byte], [[1, 0, 50, 60]], [0, 0, 2, 1, 0, 1]), [0, 1])

    def test_followed_beyond_the_piece(self):
        self.assertEqual(self.answered(SUMS, "a+a", [[1, 0, 43, 43]], [1, 0, 1], j=1), [0, 2, 0])
        self.assertEqual(self.answered(SUMS, "a+a", [[1, 0, 43, 43]], [1, 2, 3], i=2), [0, 1])
        self.assertEqual(self.answered(SUMS, "a", [[1, 0, 0, 255]], [1, 0, 1]), [0, 1])

    def test_words(self):
        self.assertEqual(self.answered(SUMS, "a+a+a", [[2, 0, 3, 97, 43, 97]], LEFT), [0, 2, 0])
        self.assertEqual(self.answered(SUMS, "a+a+a", [[2, 0, 5, 97, 43, 97, 43, 97]], LEFT), [0, 2, 0])
        self.assertEqual(self.answered(SUMS, "a+a+a", [[2, 0, 1, 43]], LEFT), [0, 1])
        self.assertEqual(self.answered(SUMS, "a+a+a", [[2, 0, 2, 97, 43]], LEFT), [0, 1])
        self.assertEqual(self.answered(SUMS, "a+a+a", [[2, 0, 0]], LEFT), [0, 1])
        row = grammar(2, (0, 1), (1, (97, 122), (97, 122)))
        nodes = [0, 0, 2, 1, 0, 2]
        for a in [0, 1]:
            self.assertEqual(self.answered(row, "if", [[2, a, 2, 105, 102]], nodes), [0, 2, 0])
            self.assertEqual(self.answered(row, "fi", [[2, a, 2, 105, 102]], nodes), [0, 1])
        self.assertEqual(self.answered(row, "if", [[2, 1, 2, 105, 102]], [1, 0, 2], a=1), [0, 2, 0])
        self.assertEqual(self.answered(row, "if", [[2, 0, 2, 105, 102]], [1, 0, 2], a=1), [0, 1])

    def test_words_of_eight_bytes(self):
        row = grammar(1, (0,) + ((97, 122),) * 8)
        word = [2, 0, 8] + [ord(sign) for sign in "continue"]
        self.assertEqual(self.answered(row, "continue", [word], [0, 0, 8]), [0, 2, 0])
        self.assertEqual(self.answered(row, "continux", [word], [0, 0, 8]), [0, 1])

    def test_filters_on_pieces_without_bytes(self):
        row = grammar(2, (0, 1, "b"), (1,), (0, "b", 1))
        before, behind = [0, 0, 1, 1, 0, 0], [2, 0, 1, 1, 1, 1]
        self.assertEqual(self.answered(row, "b", [[1, 1, 98, 98]], before), [0, 2, 0])
        self.assertEqual(self.answered(row, "b", [[1, 1, 98, 98]], behind), [0, 1])
        self.assertEqual(self.answered(row, "b", [[1, 1, 0, 97], [1, 1, 99, 255]], before), [0, 1])
        for nodes in [before, behind]:
            self.assertEqual(self.answered(row, "b", [[2, 1, 0]], nodes), [0, 2, 0])
            self.assertEqual(self.answered(row, "b", [[2, 0, 0]], nodes), [0, 1])
        self.assertEqual(self.answered(row, "b", [[0, 2, 1, 1], [0, 0, 0, 1]], before), [0, 2, 1])
        self.assertEqual(self.answered(row, "b", [[0, 2, 1, 1], [0, 0, 0, 1]], behind), [0, 2, 0])

    def test_the_first_of_several(self):
        breaking = [[0, 0, 2, 0], [1, 0, 43, 43], [2, 0, 1, 97], [2, 0, 3, 97, 43, 97]]
        idle = [[0, 0, 0, 0], [1, 0, 97, 97], [2, 0, 1, 98]]
        for first in breaking:
            for others in [breaking, list(reversed(breaking))]:
                for ahead in range(4):
                    told = self.answered(SUMS, "a+a+a", idle[:ahead] + [first] + others, RIGHT)
                    self.assertEqual(told, [0, 2, min(ahead, 3)])
        self.assertEqual(self.answered(SUMS, "a+a+a", idle, RIGHT), [0, 1])

    def test_the_last_of_forty_eight(self):
        idle = [[2, 0, 1, byte] for byte in range(47)]
        self.assertEqual(self.answered(SUMS, "a+a+a", idle + [[0, 0, 2, 0]], RIGHT), [0, 2, 47])
        self.assertEqual(self.answered(SUMS, "a+a+a", idle + [[0, 0, 2, 0]], LEFT), [0, 1])

    def test_the_same_filter_twice(self):
        self.assertEqual(self.answered(SUMS, "a+a+a", [[0, 0, 0, 0], [0, 0, 2, 0], [0, 0, 2, 0]], RIGHT), [0, 2, 1])

    def test_pieces_within_the_text(self):
        some = "+a+a+"
        self.assertEqual(self.answered(SUMS, some, [], [0, 1, 4, 1, 1, 2, 1, 3, 4], i=1, j=4), [0, 1])
        self.assertEqual(self.answered(SUMS, some, [[2, 0, 3, 97, 43, 97]], [1, 3, 4], i=3, j=4), [0, 1])
        self.assertEqual(self.answered(SUMS, some, [[2, 0, 3, 97, 43, 97]], [0, 1, 4, 1, 1, 2, 1, 3, 4], i=1, j=4),
                         [0, 2, 0])

    def test_each_told_tree_passes(self):
        row = grammar(2, (0, 0, "+", 0), (0, 1), (1, 1, "*", 1), (1, "a"))
        some = "a*a+a*a*a+a"
        held = [load(row), text(some), sift(filters([0, 2, 2, 2]))]
        told = ask(*held, count(0, 0, 11), *[tree(0, 0, 11, k) for k in range(2)])
        self.assertEqual(told[3], [0, 2])
        for one in told[4:]:
            self.assertEqual(last(*held, passes(0, 0, 11, one[2:])), [0, 1])


if __name__ == "__main__":
    unittest.main()
