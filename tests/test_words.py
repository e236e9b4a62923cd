"""Promises [7] and [9]: the words of places, and the classes of their beginnings; with [2] and [3]."""

import unittest

from tests import naive, samples
from tests.asking import Asking
from upwords.words import classes_of, word_above, word_of
from upwords.written import read_tree


class Words(Asking):

    def test_an_ordinary_tree(self):
        tree = read_tree("a(bc(d))")
        self.assertEqual([word_of(tree, k) for k in range(4)], ["a", "ba", "ca", "dca"])
        self.assertEqual([word_above(tree, k) for k in range(4)], ["", "a", "a", "ca"])

    def test_one_place(self):
        self.assertEqual((word_of(((-1,), "q"), 0), word_above(((-1,), "q"), 0)), ("q", ""))

    def test_sixty_places(self):
        labels = samples.lettered(60, samples.ALL_LETTERS, 3)
        tall, wide = (samples.path(60), labels), (samples.star(60), labels)
        self.assertEqual(word_of(tall, 59), labels[::-1])
        self.assertEqual(word_above(tall, 59), labels[-2::-1])
        self.assertEqual(word_of(wide, 59), labels[59] + labels[0])
        self.assertEqual(word_above(wide, 59), labels[0])

    def test_each_place_s(self):
        for tree in samples.many_trees():
            for place, word in enumerate(naive.words(tree)):
                self.assertEqual(word_of(tree, place), word)
                up = tree[0][place]
                self.assertEqual(word_above(tree, place), "" if up == -1 else naive.word_at(tree, up))

    def test_kinds(self):
        tree = read_tree("a(b(c)d)")
        for place in range(4):
            self.assert_text(word_of(tree, place))
            self.assert_text(word_above(tree, place))


class Classes(Asking):

    def test_an_ordinary_tree(self):
        # The words: a, ba, aba, ba, bba.
        tree = read_tree("a(b(a)b(b))")
        self.assertEqual(classes_of(tree, 0), [0, 0, 0, 0, 0])
        self.assertEqual(classes_of(tree, 1), [0, 1, 0, 1, 1])
        self.assertEqual(classes_of(tree, 2), [0, 2, 1, 2, 3])
        self.assertEqual(classes_of(tree, 60), [0, 2, 1, 2, 3])

    def test_a_shorter_word_is_whole(self):
        self.assertEqual(classes_of(read_tree("a(a(a))"), 2), [0, 1, 1])
        self.assertEqual(classes_of(read_tree("a(a(a))"), 3), [0, 1, 2])

    def test_the_ends(self):
        one = (samples.path(60), "a" * 60)
        self.assertEqual(classes_of(one, 0), [0] * 60)
        self.assertEqual(classes_of(one, 1), [0] * 60)
        self.assertEqual(classes_of(one, 59), list(range(59)) + [58])
        self.assertEqual(classes_of(one, 60), list(range(60)))
        self.assertEqual(classes_of(((-1,), "z"), 0), [0])
        self.assertEqual(classes_of(((-1,), "z"), 60), [0])

    def test_somewhat_beyond(self):
        tree = (samples.path(60), samples.lettered(60, "ab", 8))
        self.assertEqual(classes_of(tree, 61), classes_of(tree, 60))

    def test_as_the_words_say(self):
        for tree in samples.few_trees() + samples.small_trees(4):
            words = naive.words(tree)
            for length in (0, 1, 2, 3, 5, 30, 58, 59, 60):
                told = classes_of(tree, length)
                begun = [word[:length] for word in words]
                self.assertEqual(sorted(set(told)), list(range(max(told) + 1)))
                for one, first in zip(told, begun):
                    for other, second in zip(told, begun):
                        self.assertEqual((one == other, one < other), (first == second, first < second))

    def test_kinds_and_own(self):
        for tree in (read_tree("a"), read_tree("a(b(a)b(b))"), (samples.star(60), "ab" * 30)):
            for length in (0, 1, 60):
                self.assert_wholes(classes_of(tree, length), list)
                self.assert_own(classes_of, tree, length)


if __name__ == "__main__":
    unittest.main()
