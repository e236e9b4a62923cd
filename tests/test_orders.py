"""Promises [7] and [8]: order, ranks and what is alike; with [2]."""

import os
import unittest

from tests import naive, samples
from tests.asking import Asking
from upwords.orders import alike_of, order_of, ranks_of
from upwords.written import read_tree


class Orders(Asking):

    def test_an_ordinary_tree(self):
        # The words: a, ba, aba, ba, bba.
        tree = read_tree("a(b(a)b(b))")
        self.assertEqual(order_of(tree), [0, 2, 1, 3, 4])
        self.assertEqual(ranks_of(tree), [0, 2, 1, 3, 4])
        self.assertEqual(alike_of(tree), [0, 1, 0, 2, 1])

    def test_ranks_are_not_the_order(self):
        # The words: b, cb, ab, aab.
        tree = read_tree("b(ca(a))")
        self.assertEqual(order_of(tree), [3, 2, 0, 1])
        self.assertEqual(ranks_of(tree), [2, 3, 1, 0])
        self.assertEqual(alike_of(tree), [0, 1, 0, 0])

    def test_one_place(self):
        self.assertEqual((order_of(((-1,), "z")), ranks_of(((-1,), "z")), alike_of(((-1,), "z"))), ([0], [0], [0]))

    def test_alike_words_by_their_numbers(self):
        tree = (samples.star(60), "a" * 60)
        self.assertEqual(order_of(tree), list(range(60)))
        self.assertEqual(alike_of(tree), [0, 1] + [2] * 58)

    def test_sixty_deep(self):
        one = (samples.path(60), "a" * 60)
        self.assertEqual(order_of(one), list(range(60)))
        self.assertEqual(alike_of(one), list(range(60)))

    def test_as_the_words_say(self):
        for tree in samples.many_trees() + samples.small_trees(5):
            order, words = naive.order(tree), naive.words(tree)
            self.assertEqual(order_of(tree), order)
            self.assertEqual(ranks_of(tree), [order.index(place) for place in range(len(order))])
            self.assertEqual(alike_of(tree), [0] + [
                len(os.path.commonprefix([words[one], words[other]])) for one, other in zip(order, order[1:])])

    def test_kinds_and_own(self):
        for tree in (read_tree("a"), read_tree("a(b(a)b(b))"), (samples.star(60), "ab" * 30)):
            for asked in (order_of, ranks_of, alike_of):
                self.assert_wholes(asked(tree), list)
                self.assert_own(asked, tree)


if __name__ == "__main__":
    unittest.main()
