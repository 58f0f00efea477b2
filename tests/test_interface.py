"""The interface: treefilters.desk.answers."""

import unittest

from talk import SUMS, ask, count, filters, grammar, load, reads, sift, text, tree
from treefilters.counts import ENDLESS, MANY
from treefilters.desk import answers


class Interface(unittest.TestCase):

    def test_calls_one_behind_another(self):
        calls = [0, 16] + SUMS + [1, 3, 97, 43, 97] + [4, 0, 0, 3] + [5, 0, 0, 3, 0] + [2, 1, 0] + [3] + [4, 1, 0, 0]
        self.assertEqual(answers(calls), [1, 0, 1, 0, 2, 0, 1, 11, 0, 3, 0, 0, 3, 1, 0, 1, 1, 2, 3, 1, 0, 2, 0, 1, 1, -4])

    def test_empty_rows(self):
        self.assertEqual(answers([0, 0, 1, 0, 2, 0, 3]), [1, -2, 1, 0, 1, -2, 2, 0, 0])

    def test_one_call(self):
        self.assertEqual(answers([3]), [2, 0, 0])

    def test_rows_that_look_like_calls(self):
        self.assertEqual(answers([0, 3, 3, 3, 3, 3]), [1, -2, 2, 0, 0])
        self.assertEqual(answers([1, 2, 3, 3, 4, 0, 0, 2, 4, 0, 0, 3]), [1, 0, 2, 0, 0, 1, -5])

    def test_infinitely_many_is_no_refusal(self):
        self.assertEqual(ask(load(grammar(1, (0, 0), (0,))), count(0, 0, 0))[1], [1])

    def test_what_is_handed_in_is_as_it_was(self):
        calls = load(SUMS) + text("a+a") + sift([1, 0, 0, 2, 0]) + count(0, 0, 3) + tree(0, 0, 3, 0) + reads()
        before = list(calls)
        told = answers(calls)
        self.assertEqual(calls, before)
        self.assertEqual(answers(calls), told)

    def test_nothing_is_kept(self):
        calls = load(SUMS) + text("a") + sift([1, 2, 0, 1, 97]) + reads()
        self.assertEqual(answers(calls), answers(calls))
        self.assertEqual(answers([3, 4, 0, 0, 0, 4, 0, 0, 1]), [2, 0, 0, 2, 0, 0, 1, -5])
        told = answers(calls)
        told.append(7)
        self.assertEqual(answers(calls), told[:-1])

    def test_whole_numbers_alone(self):
        calls = load(SUMS) + text("a+a") + sift([0]) + reads() + count(0, 0, 3) + tree(0, 0, 3, 0) + count(9, 9, 9)
        told = answers(calls)
        self.assertIs(type(told), list)
        self.assertEqual({type(number) for number in told}, {int})

    def test_a_hundred_calls(self):
        told = ask(load(SUMS), *[call for k in range(33) for call in [text("a"), reads(), count(0, 0, k % 3)]])
        self.assertEqual(told[1:4], [[0], [0, 1], [0, 0]])
        self.assertEqual(len(told), 100)

    def test_the_longest_list(self):
        row = grammar(20, *[(19,) + ((0, 255),) * 8] * 60)
        told = ask(*[load(row)] * 10, reads())
        self.assertEqual(told, [[0]] * 10 + [[0, 0]])


class Size(unittest.TestCase):

    def test_counts_beyond_all_sums(self):
        self.assertEqual(MANY, 10 ** 60)
        self.assertGreater(ENDLESS, 100 * MANY * MANY)

    def test_the_largest_grammars(self):
        rules = [(0,) + (0,) * 8] * 58 + [(0,), (0, "a")]
        sieves = [48] + [number for r in range(48) for number in [0, r, r % 8, r]]
        told = ask(load(grammar(1, *rules)), text("a" * 24), sift(sieves), count(0, 0, 24))
        self.assertEqual(told, [[0], [0], [0], [1]])

    def test_deep_trees(self):
        """Each byte stands beneath twenty nodes over the same piece."""
        rules = [(k, k + 1) for k in range(19)] + [(19, "a", 0), (19, "a")]
        told = ask(load(grammar(20, *rules)), text("a" * 24), count(0, 0, 24), tree(0, 0, 24, 0))
        self.assertEqual(told[2], [0, 1])
        self.assertEqual(told[3][:2], [0, 480])

    def test_deeper_than_is_told(self):
        """Forty nodes over each piece: the rules go twice round the nonterminals, then take a byte."""
        first = [(k, (k + 1) % 20) for k in range(20)]
        second = [(k, k + 1) for k in range(19)] + [(19, "a", 0), (19, "a")]
        stay = [[0, k, 0, 21 + k] for k in range(18)] + [[0, 18, 0, 39], [0, 18, 0, 40]]
        forward = [[0, 20 + k, 0, 1 + k] for k in range(19)] + [[0, 19, 0, 0], [0, 39, 1, 20]]
        told = ask(load(grammar(20, *first, *second)), text("a" * 24), sift(filters(*stay, *forward)),
                   count(0, 0, 24), tree(0, 0, 24, 0), tree(0, 21, 24, 0))
        self.assertEqual(told[:5], [[0], [0], [0], [0, 2], [-8]])
        self.assertEqual(told[5][:2], [0, 120])


if __name__ == "__main__":
    unittest.main()
