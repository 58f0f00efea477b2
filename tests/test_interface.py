"""The interface: treefilters.desk.answers."""

import itertools
import random
import unittest

from talk import SUMS, ambiguous, ask, count, filters, grammar, held_filters, idle, load, passes, places, reads
from talk import refined, sift, text, tree
from treefilters.counts import ENDLESS, MANY
from treefilters.desk import answers


RIGHT = [0, 0, 5, 1, 0, 1, 0, 2, 5, 1, 2, 3, 1, 4, 5]

HELD = [load(SUMS), text("a+a+a"), sift([1, 0, 0, 2, 0])]

# Each call that changes nothing, with what it answers behind HELD.
ASKED = [
    (reads(), [0, 1]),
    (count(0, 0, 5), [0, 1]),
    (tree(0, 0, 5, 0), [0, 5, 0, 0, 5, 0, 0, 3, 1, 0, 1, 1, 2, 3, 1, 4, 5]),
    (tree(0, 0, 5, 1), [-7]),
    (passes(0, 0, 5, RIGHT), [0, 2, 0]),
    (passes(0, 0, 5, []), [0, 0]),
    (passes(0, 0, 1, [1, 0, 1]), [0, 1]),
    (passes(1, 0, 5, RIGHT), [-4]),
    (passes(0, 0, 6, RIGHT), [-5]),
    (passes(0, 0, 5, RIGHT + [-1]), [-1]),
    (passes(0, 0, 5, RIGHT + [1]), [-9]),
    (places(), [0, 2, 0, 0, 0, 1, 0]),
    (refined(), [0, 2, 3, 0, 3, 0, 0, 1, 43, 43, 0, 1, 0, 1, 1, 97, 97, 1, 1, 1, 97, 97, 0, 1, 1]),
    (idle(0), [0, 0]),
    (idle(1), [-10]),
    (ambiguous(), [0]),
    (held_filters(), [0, 1, 0, 0, 2, 0]),
]


class Interface(unittest.TestCase):

    def test_calls_one_behind_another(self):
        calls = [0, 16] + SUMS + [1, 3, 97, 43, 97] + [4, 0, 0, 3] + [5, 0, 0, 3, 0] + [2, 1, 0] + [3] + [4, 1, 0, 0]
        self.assertEqual(answers(calls), [1, 0, 1, 0, 2, 0, 1, 11, 0, 3, 0, 0, 3, 1, 0, 1, 1, 2, 3, 1, 0, 2, 0, 1, 1, -4])

    def test_the_later_calls_one_behind_another(self):
        calls = [0, 16] + SUMS + [1, 1, 97] + [2, 5, 1, 2, 0, 1, 97] + [6, 0, 0, 1, 3, 1, 0, 1] + [7, 8, 9, 0, 10, 11]
        told = [1, 0, 1, 0, 1, 0] + [3, 0, 2, 0] + [4, 0, 1, 0, 0] + [19, 0] + SUMS + [0, 1] + [2, 0, 0] + [1, 0]
        self.assertEqual(answers(calls), told + [6, 0, 1, 2, 0, 1, 97])
        self.assertEqual(answers([6, 0, 0, 0, 0, 7, 8, 9, 0, 10, 11]),
                         [2, 0, 0, 4, 0, 1, 0, 0, 3, 0, 1, 0, 1, -10, 1, 0, 2, 0, 0])
        self.assertEqual(answers([0, 6, 1, 2, 0, 0, 0, 0, 10]), [1, 0, 4, 1, 0, 0, 0])

    def test_each_call_alone(self):
        alone = [reads(), count(0, 0, 0), tree(0, 0, 0, 0), passes(0, 0, 0, [0, 0, 0]), places(), refined(), idle(0),
                 ambiguous(), held_filters()]
        told = [[0, 0], [0, 0], [-7], [0, 0], [0, 1, 0, 0], [0, 1, 0], [-10], [0], [0, 0]]
        for call, expected in zip(alone, told):
            self.assertEqual(ask(call), [expected])

    def test_any_order(self):
        """Whatever is asked before it, each call answers the same."""
        for (one, told), (other, also_told) in itertools.product(ASKED, ASKED):
            self.assertEqual(ask(*HELD, one, other, one)[3:], [told, also_told, told])
        chance = random.Random(30)
        for _ in range(20):
            picked = [chance.choice(ASKED) for _ in range(97)]
            self.assertEqual(ask(*HELD, *[call for call, _ in picked])[3:], [told for _, told in picked])

    def test_asked_between_what_changes_the_object(self):
        for one, told in ASKED:
            self.assertEqual(ask(one, HELD[0], one, HELD[1], one, HELD[2], one)[-1], told)
            self.assertEqual(ask(HELD[1], one, HELD[0], one, HELD[2], one, load([]), one, text([-1]), one)[-1], told)

    def test_passes_with_lists_that_look_like_calls(self):
        self.assertEqual(answers([6, 0, 0, 0, 3, 3, 3, 3, 3]), [2, 0, 0, 2, 0, 0])
        self.assertEqual(answers([6, 5, 0, 0, 4, 7, 8, 9, 10, 11]), [1, -4, 2, 0, 0])
        self.assertEqual(answers([6, 0, 0, 0, 4, -7, 8, 9, 10, 7]), [1, -1, 4, 0, 1, 0, 0])

    def test_empty_rows(self):
        self.assertEqual(answers([0, 0, 1, 0, 2, 0, 3]), [1, -2, 1, 0, 1, -2, 2, 0, 0])

    def test_one_call(self):
        self.assertEqual(answers([3]), [2, 0, 0])

    def test_rows_that_look_like_calls(self):
        self.assertEqual(answers([0, 3, 3, 3, 3, 3]), [1, -2, 2, 0, 0])
        self.assertEqual(answers([1, 2, 3, 3, 4, 0, 0, 2, 4, 0, 0, 3]), [1, 0, 2, 0, 0, 1, -5])

    def test_infinitely_many_is_no_refusal(self):
        self.assertEqual(ask(load(grammar(1, (0, 0), (0,))), count(0, 0, 0))[1], [1])

    def test_what_is_handed_in_is_as_it_was(self):
        calls = load(SUMS) + text("a+a") + sift([1, 0, 0, 2, 0]) + count(0, 0, 3) + tree(0, 0, 3, 0) + reads()
        calls += [number for call, _ in ASKED for number in call]
        before = list(calls)
        told = answers(calls)
        self.assertEqual(calls, before)
        self.assertEqual(answers(calls), told)

    def test_nothing_is_kept(self):
        calls = load(SUMS) + text("a") + sift([1, 2, 0, 1, 97]) + reads()
        self.assertEqual(answers(calls), answers(calls))
        self.assertEqual(answers([3, 4, 0, 0, 0, 4, 0, 0, 1]), [2, 0, 0, 2, 0, 0, 1, -5])
        told = answers(calls)
        told.append(7)
        self.assertEqual(answers(calls), told[:-1])
        self.assertEqual(answers([7, 8, 9, 0, 10, 11]), [4, 0, 1, 0, 0, 3, 0, 1, 0, 1, -10, 1, 0, 2, 0, 0])
        for call, expected in ASKED:
            self.assertEqual(ask(*HELD, call)[3], expected)
            self.assertEqual(ask(*HELD[:2], held_filters())[2], [0, 0])

    def test_whole_numbers_alone(self):
        calls = load(SUMS) + text("a+a") + sift([0]) + reads() + count(0, 0, 3) + tree(0, 0, 3, 0) + count(9, 9, 9)
        calls += [number for call in HELD + [call for call, _ in ASKED] for number in call]
        told = answers(calls)
        self.assertIs(type(told), list)
        self.assertEqual({type(number) for number in told}, {int})

    def test_a_hundred_calls(self):
        told = ask(load(SUMS), *[call for k in range(33) for call in [text("a"), reads(), count(0, 0, k % 3)]])
        self.assertEqual(told[1:4], [[0], [0, 1], [0, 0]])
        self.assertEqual(len(told), 100)

    def test_the_longest_list(self):
        row = grammar(20, *[(19,) + ((0, 255),) * 8] * 60)
        told = ask(*[load(row)] * 10, reads())
        self.assertEqual(told, [[0]] * 10 + [[0, 0]])


class Size(unittest.TestCase):

    def test_counts_beyond_all_sums(self):
        self.assertEqual(MANY, 10 ** 60)
        self.assertGreater(ENDLESS, 100 * MANY * MANY)

    def test_the_largest_grammars(self):
        rules = [(0,) + (0,) * 8] * 58 + [(0,), (0, "a")]
        sieves = [48] + [number for r in range(48) for number in [0, r, r % 8, r]]
        told = ask(load(grammar(1, *rules)), text("a" * 24), sift(sieves), count(0, 0, 24))
        self.assertEqual(told, [[0], [0], [0], [1]])

    def test_idle_and_the_others_on_the_largest_grammars(self):
        rules = [(0,) + (0,) * 8] * 58 + [(0,), (0, "a")]
        sieves = [48] + [number for r in range(47) for number in [0, r, r % 8, r]] + [2, 0, 1, 98]
        told = ask(load(grammar(1, *rules)), text("a" * 24), sift(sieves), idle(0), idle(47), ambiguous(), held_filters(),
                   places(), refined())
        self.assertEqual(told[3:7], [[0, 1], [0, 1], [1, 0, 0, 0], [0] + sieves])
        self.assertEqual(told[7][:2], [0, 48])
        self.assertEqual(told[8][:3], [0, 48, 60 + 47 * 59])

    def test_idle_forty_eight_times(self):
        rules = [(0, 0, 0)] * 30 + [(0, "a")] * 30
        sieves = [[0, k % 30, k % 2, k] for k in range(48)]
        told = ask(load(grammar(1, *rules)), text("a" * 24), sift(filters(*sieves)), *[idle(f) for f in range(48)])
        self.assertEqual(told[3:], [[0, 0]] * 48)

    def test_deep_trees(self):
        """Each byte stands beneath twenty nodes over the same piece."""
        rules = [(k, k + 1) for k in range(19)] + [(19, "a", 0), (19, "a")]
        told = ask(load(grammar(20, *rules)), text("a" * 24), count(0, 0, 24), tree(0, 0, 24, 0))
        self.assertEqual(told[2], [0, 1])
        self.assertEqual(told[3][:2], [0, 480])

    def test_deeper_than_is_told(self):
        """Forty nodes over each piece: the rules go twice round the nonterminals, then take a byte."""
        first = [(k, (k + 1) % 20) for k in range(20)]
        second = [(k, k + 1) for k in range(19)] + [(19, "a", 0), (19, "a")]
        stay = [[0, k, 0, 21 + k] for k in range(18)] + [[0, 18, 0, 39], [0, 18, 0, 40]]
        forward = [[0, 20 + k, 0, 1 + k] for k in range(19)] + [[0, 19, 0, 0], [0, 39, 1, 20]]
        told = ask(load(grammar(20, *first, *second)), text("a" * 24), sift(filters(*stay, *forward)),
                   count(0, 0, 24), tree(0, 0, 24, 0), tree(0, 21, 24, 0))
        self.assertEqual(told[:5], [[0], [0], [0], [0, 2], [-8]])
        self.assertEqual(told[5][:2], [0, 120])


if __name__ == "__main__":
    unittest.main()
