"""Promises [10] and [11]: words that are sought; with [2], [3] and [4]."""

import fractions
import unittest

from tests import naive, samples
from tests.asking import Asking
from upwords.errors import NoNumber
from upwords.sought import (both_read, how_many, longest_beginning, longest_end, nth_place, places_of, stretch_of)
from upwords.written import read_tree


def trees_and_words():
    for tree in samples.few_trees():
        yield tree, samples.words_about(naive.words(tree))
    texts = samples.all_texts("abc", 4)
    for tree in samples.small_trees(4):
        yield tree, texts


class Stretches(Asking):

    def test_an_ordinary_tree(self):
        # The words in order: a, aba, ba, ba, bba, at the places 0, 2, 1, 3, 4.
        tree = read_tree("a(b(a)b(b))")
        for word, stretch, places in (
                ("", (0, 5), [0, 1, 2, 3, 4]), ("a", (0, 2), [0, 2]), ("b", (2, 5), [1, 3, 4]),
                ("ba", (2, 4), [1, 3]), ("aba", (1, 2), [2]), ("aa", (1, 1), []), ("b" * 60, (5, 5), []),
                ("c", (5, 5), []), ("a" * 60, (1, 1), []), ("bab", (4, 4), []), ("bbaa", (5, 5), []),
                ("z", (5, 5), []), ("ab", (1, 2), [2]), ("bb", (4, 5), [4])):
            self.assertEqual(stretch_of(tree, word), stretch, word)
            self.assertEqual(places_of(tree, word), places, word)
            self.assertEqual(how_many(tree, word), len(places), word)

    def test_less_than_all(self):
        tree = read_tree("b(cb)")
        self.assertEqual(stretch_of(tree, "a"), (0, 0))
        self.assertEqual(stretch_of(tree, "a" * 60), (0, 0))

    def test_a_word_of_sixty_letters(self):
        labels = samples.lettered(60, "ab", 2)
        tree = (samples.path(60), labels)
        word = labels[::-1]
        self.assertEqual((places_of(tree, word), how_many(tree, word)), ([59], 1))
        self.assertEqual(stretch_of(tree, word), (naive.order(tree).index(59), naive.order(tree).index(59) + 1))
        self.assertEqual((places_of(tree, word + "a"), how_many(tree, word + "a")), ([], 0))

    def test_as_the_words_say(self):
        for tree, words in trees_and_words():
            order, own = naive.order(tree), naive.words(tree)
            for word in words:
                places = naive.read_at(tree, word)
                first, behind = stretch_of(tree, word)
                self.assertEqual(places_of(tree, word), places)
                self.assertEqual(how_many(tree, word), len(places))
                self.assertEqual(sorted(order[first:behind]), places)
                self.assertEqual(behind - first, len(places))
                if not places:
                    self.assertEqual(first, sum(other < word for other in own))
                self.assertEqual([nth_place(tree, word, k) for k in range(len(places))], order[first:behind])
                self.assert_refused(NoNumber, nth_place, tree, word, len(places))

    def test_kinds_and_own(self):
        tree = read_tree("a(b(a)b(b))")
        for word in ("", "a", "ba", "zz"):
            self.assert_wholes(stretch_of(tree, word), tuple)
            self.assertEqual(len(stretch_of(tree, word)), 2)
            self.assert_wholes(places_of(tree, word), list)
            self.assert_whole(how_many(tree, word))
            self.assert_own(places_of, tree, word)


class NthPlace(Asking):

    def test_by_rank(self):
        tree = read_tree("b(ca(a))")
        self.assertEqual([nth_place(tree, "", k) for k in range(4)], [3, 2, 0, 1])
        self.assertEqual([nth_place(tree, "a", k) for k in range(2)], [3, 2])
        self.assertEqual(nth_place(tree, "c", 0), 1)
        self.assert_whole(nth_place(tree, "a", 1))

    def test_numbers_that_there_are_not(self):
        tree = read_tree("b(ca(a))")
        for word, many in (("", 4), ("a", 2), ("c", 1), ("d", 0)):
            for k in (-1, -2, -many, many, many + 1, 60, 10 ** 59, -10 ** 59, 10 ** 60 - 1):
                if k not in range(many):
                    self.assert_refused(NoNumber, nth_place, tree, word, k)

    def test_anything(self):
        tree = read_tree("b(ca(a))")
        for thing in samples.things() + ["a", "", fractions.Fraction(0), fractions.Fraction(1)]:
            self.assert_refused(NoNumber, nth_place, tree, "a", thing)
            self.assert_refused(NoNumber, nth_place, tree, "", thing)


class Parts(Asking):

    def test_an_ordinary_tree(self):
        # The words: a, ba, aba, ba, bba.
        tree = read_tree("a(b(a)b(b))")
        for word, beginning, end in (("", "", ""), ("a", "a", "a"), ("abb", "ab", "bb"), ("bbaa", "bba", "a"),
                                     ("ccba", "", "ba"), ("cc", "", ""), ("bbac", "bba", ""), ("bba", "bba", "bba"),
                                     ("aaba", "a", "aba"), ("z" * 59 + "b", "", "b"), ("b" + "z" * 59, "b", "")):
            self.assertEqual(longest_beginning(tree, word), beginning, word)
            self.assertEqual(longest_end(tree, word), end, word)

    def test_as_the_words_say(self):
        for tree, words in trees_and_words():
            read = naive.counts(tree)
            for word in words:
                self.assertEqual(longest_beginning(tree, word), next(
                    word[:length] for length in range(len(word), -1, -1) if word[:length] in read))
                self.assertEqual(longest_end(tree, word), next(
                    word[start:] for start in range(len(word) + 1) if word[start:] in read))

    def test_sixty_letters(self):
        tree = (samples.path(60), "a" * 60)
        self.assertEqual((longest_beginning(tree, "a" * 60), longest_end(tree, "a" * 60)), ("a" * 60, "a" * 60))
        self.assertEqual((longest_beginning(tree, "a" * 59 + "b"), longest_end(tree, "b" + "a" * 59)),
                         ("a" * 59, "a" * 59))

    def test_kinds(self):
        tree = read_tree("a(b(a)b(b))")
        for word in ("", "a", "zz", "baz"):
            self.assert_text(longest_beginning(tree, word))
            self.assert_text(longest_end(tree, word))


class BothRead(Asking):

    def test_an_ordinary_tree(self):
        # The words: a, ba, aba, ba, bba.
        tree = read_tree("a(b(a)b(b))")
        for one, other, places in (("b", "b", [1, 3, 4]), ("a", "b", [2]), ("a", "a", [0, 2]), ("", "b", [1, 2, 3, 4]),
                                   ("b", "", [1, 3, 4]), ("", "", [0, 1, 2, 3, 4]), ("ba", "ba", [1, 3]),
                                   ("bb", "ba", [4]), ("ba", "bb", []), ("z", "", []), ("", "z", []), ("z", "z", []),
                                   ("b", "a", [1, 3, 4]), ("a", "aba", [2]), ("ba", "a", [1, 3])):
            self.assertEqual(both_read(tree, one, other), places, (one, other))

    def test_as_the_words_say(self):
        for tree, words in trees_and_words():
            for k, one in enumerate(words[:24]):
                for other in (one, "", words[k // 2], words[-1 - k], one[1:], one[:1]):
                    second = naive.read_at(tree, other)
                    places = [place for place in naive.read_at(tree, one)
                              if any(upper in second for upper in naive.self_and_above(tree, place))]
                    self.assertEqual(both_read(tree, one, other), places)

    def test_sixty_places(self):
        tree = (samples.path(60), "b" + "a" * 59)
        self.assertEqual(both_read(tree, "a", "b"), list(range(1, 60)))
        self.assertEqual(both_read(tree, "b", "a"), [])
        self.assertEqual(both_read(tree, "aaa", "aab"), list(range(3, 60)))

    def test_kinds_and_own(self):
        tree = read_tree("a(b(a)b(b))")
        for one, other in (("", ""), ("b", "b"), ("a", "b"), ("z", "")):
            self.assert_wholes(both_read(tree, one, other), list)
            self.assert_own(both_read, tree, one, other)


if __name__ == "__main__":
    unittest.main()
