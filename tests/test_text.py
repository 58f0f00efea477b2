"""Promise 2: text."""

import unittest

from talk import SUMS, ask, count, grammar, load, reads, sift, text

ANY = grammar(1, (0, (0, 255), 0), (0,))


class Texts(unittest.TestCase):

    def refused(self, some, number):
        """The refusal is answered, and the text held before it stays."""
        told = ask(load(ANY), text("abc"), text(some), count(0, 0, 3), count(0, 0, 4))
        self.assertEqual(told, [[0], [0], [number], [0, 1], [-5]], some)

    def test_bytes_at_the_edges(self):
        self.assertEqual(ask(load(ANY), text([0, 255]), reads()), [[0], [0], [0, 1]])
        self.refused([-1], -1)
        self.refused([256], -1)
        self.refused([97, 97, 10 ** 18], -1)
        self.refused([97, -10 ** 18], -1)

    def test_how_many_bytes(self):
        self.assertEqual(ask(load(ANY), text([]), count(0, 0, 0), count(0, 0, 1)), [[0], [0], [0, 1], [-5]])
        self.assertEqual(ask(load(ANY), text([7] * 24), reads(), count(0, 24, 24), count(0, 0, 25)),
                         [[0], [0], [0, 1], [0, 1], [-5]])
        self.refused([7] * 25, -3)
        self.refused([7] * 2000, -3)

    def test_no_byte_comes_before_too_many(self):
        self.refused([7] * 24 + [256], -1)
        self.refused([-1] + [7] * 24, -1)
        self.refused([7] * 1999 + [-1], -1)

    def test_the_grammar_and_the_filters_stay(self):
        told = ask(load(SUMS), sift([1, 0, 0, 2, 0]), text("a+a+a"), count(0, 0, 5), text("a+a+a+a"),
                   count(0, 0, 7))
        self.assertEqual(told[3::2], [[0, 1], [0, 1]])

    def test_the_last_text_holds(self):
        told = ask(load(SUMS), text("a"), reads(), text("+"), reads(), text([]), reads(), text("a"), reads())
        self.assertEqual(told[2::2], [[0, 1], [0, 0], [0, 0], [0, 1]])


if __name__ == "__main__":
    unittest.main()
