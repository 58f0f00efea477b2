"""The document's examples."""

import unittest

from talk import ask, count, held_filters, load, passes, places, reads, refined, sift, text, tree

ROW = [1, 2, 0, 3, 0, 0, 1, 43, 43, 0, 0, 0, 1, 1, 97, 97]


class Examples(unittest.TestCase):

    def test_one_tree_passes(self):
        told = ask(load(ROW), text("a+a+a"), sift([1, 0, 0, 2, 0]), count(0, 0, 5), tree(0, 0, 5, 0),
                   tree(0, 0, 5, 1), reads())
        self.assertEqual(told, [[0], [0], [0], [0, 1], [0, 5, 0, 0, 5, 0, 0, 3, 1, 0, 1, 1, 2, 3, 1, 4, 5], [-7],
                                [0, 1]])

    def test_the_tree_that_breaks_it(self):
        told = ask(load(ROW), text("a+a+a"), count(0, 0, 5), tree(0, 0, 5, 0))
        self.assertEqual(told[2:], [[0, 2], [0, 5, 0, 0, 5, 1, 0, 1, 0, 2, 5, 1, 2, 3, 1, 4, 5]])

    def test_passes(self):
        breaking = [0, 0, 5, 1, 0, 1, 0, 2, 5, 1, 2, 3, 1, 4, 5]
        passing = [0, 0, 5, 0, 0, 3, 1, 0, 1, 1, 2, 3, 1, 4, 5]
        told = ask(load(ROW), text("a+a+a"), sift([1, 0, 0, 2, 0]), passes(0, 0, 5, breaking), passes(0, 0, 5, passing))
        self.assertEqual(told[3:], [[0, 2, 0], [0, 1]])

    def test_places_and_refined(self):
        told = ask(load(ROW), text("a+a+a"), sift([1, 0, 0, 2, 0]), places(), refined(), held_filters())
        self.assertEqual(told[3], [0, 2, 0, 0, 0, 1, 0])
        self.assertEqual(told[4], [0, 2, 3, 0, 3, 0, 0, 1, 43, 43, 0, 1, 0, 1, 1, 97, 97, 1, 1, 1, 97, 97, 0, 1, 1])
        self.assertEqual(told[5], [0, 1, 0, 0, 2, 0])

    def test_nothing_is_read_any_more(self):
        for some in ["a+a+a", "a", "a+a"]:
            told = ask(load(ROW), text(some), reads(), sift([1, 2, 0, 1, 97]), reads(), count(0, 0, len(some)))
            self.assertEqual(told[2:], [[0, 1], [0], [0, 0], [0, 0]])


if __name__ == "__main__":
    unittest.main()
