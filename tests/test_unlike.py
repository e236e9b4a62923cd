"""Promises [12], [13] and [14]: unlike words; with [2], [3] and [4]."""

import fractions
import unittest

from tests import naive, samples
from tests.asking import Asking
from upwords.errors import NoNumber, NoWord
from upwords.unlike import (behinds_of, by_lengths, closed_words, count_words, fronts_of, longest_again, most_read,
                            nth_word, number_of)
from upwords.written import read_tree

NOT_READ = ("A", " ", "z" * 60, "a" * 61, "\n", "a ", "(")


def trees():
    return samples.few_trees() + samples.small_trees(4)


class Numbered(Asking):

    def test_an_ordinary_tree(self):
        # The words: a, ba, aba, ba, bba.
        tree = read_tree("a(b(a)b(b))")
        words = ["a", "ab", "aba", "b", "ba", "bb", "bba"]
        self.assertEqual(count_words(tree), 7)
        self.assertEqual([nth_word(tree, k) for k in range(7)], words)
        self.assertEqual([number_of(tree, word) for word in words], list(range(7)))
        self.assertEqual(by_lengths(tree), [2, 3, 2])

    def test_one_place(self):
        tree = read_tree("q")
        self.assertEqual((count_words(tree), nth_word(tree, 0), number_of(tree, "q"), by_lengths(tree)), (1, "q", 0, [1]))

    def test_sixty_places(self):
        one = (samples.path(60), "a" * 60)
        self.assertEqual((count_words(one), by_lengths(one)), (60, [1] * 60))
        self.assertEqual((nth_word(one, 59), number_of(one, "a" * 60)), ("a" * 60, 59))
        many = (samples.path(60), (samples.ALL_LETTERS * 3)[:60])
        self.assertEqual(count_words(many), len(naive.unlike(many)))
        self.assertEqual(by_lengths(many)[-1], 1)
        wide = (samples.star(60), "a" * 60)
        self.assertEqual((count_words(wide), by_lengths(wide)), (2, [1, 1]))

    def test_as_the_words_say(self):
        for tree in trees():
            words = naive.unlike(tree)
            self.assertEqual(count_words(tree), len(words))
            self.assertEqual(by_lengths(tree), [
                sum(len(word) == length for word in words) for length in range(1, max(map(len, words)) + 1)])
            for k in sorted({0, 1, 2, len(words) // 2, len(words) - 2, len(words) - 1} & set(range(len(words)))):
                self.assertEqual(nth_word(tree, k), words[k])
                self.assertEqual(number_of(tree, words[k]), k)

    def test_every_number_leads_to_its_word_and_back(self):
        for tree in ((samples.comb(60), samples.lettered(60, "ab", 4)), (samples.path(30), "abc" * 10)):
            words = naive.unlike(tree)
            self.assertEqual([nth_word(tree, k) for k in range(len(words))], words)
            self.assertEqual([number_of(tree, word) for word in words], list(range(len(words))))

    def test_numbers_that_there_are_not(self):
        for tree in (read_tree("q"), read_tree("a(b(a)b(b))"), (samples.path(60), "a" * 60)):
            many = len(naive.unlike(tree))
            for thing in samples.things() + [many, many + 1, -many, "a", "", fractions.Fraction(0)]:
                self.assert_refused(NoNumber, nth_word, tree, thing)

    def test_words_that_are_not_read(self):
        tree = read_tree("a(b(a)b(b))")
        for word in NOT_READ + ("", "aa", "bab", "c", "abab", "bbb"):
            self.assert_refused(NoWord, number_of, tree, word)
        for tree in samples.small_trees(3):
            read = naive.counts(tree)
            for word in samples.all_texts("abc", 4):
                if word == "" or word not in read:
                    self.assert_refused(NoWord, number_of, tree, word)

    def test_kinds_and_own(self):
        tree = read_tree("a(b(a)b(b))")
        self.assert_whole(count_words(tree))
        self.assert_text(nth_word(tree, 3))
        self.assert_whole(number_of(tree, "ab"))
        self.assert_whole(number_of(tree, "a"))
        self.assert_wholes(by_lengths(tree), list)
        self.assert_own(by_lengths, tree)


class MostRead(Asking):

    def test_an_ordinary_tree(self):
        # The words: a, ba, aba, ba, bba.
        tree = read_tree("a(b(a)b(b))")
        self.assertEqual([most_read(tree, length) for length in (1, 2, 3, 4)],
                         [("b", 3), ("ba", 2), ("aba", 1), None])

    def test_of_several_the_first(self):
        # The words: c, bc, ac, abc, bac.
        self.assertEqual(most_read(read_tree("c(b(a)a(b))"), 1), ("a", 2))
        self.assertEqual(most_read(read_tree("c(b(a)a(b))"), 2), ("ab", 1))

    def test_beyond_the_longest(self):
        for tree in (read_tree("q"), (samples.path(60), "a" * 60), (samples.star(60), "ab" * 30)):
            longest = max(map(len, naive.words(tree)))
            self.assertIsNotNone(most_read(tree, longest))
            for length in (longest + 1, longest + 2, 61, 4000, 10 ** 59, 10 ** 60 - 1):
                self.assertIsNone(most_read(tree, length))

    def test_as_the_words_say(self):
        for tree in trees():
            read = naive.counts(tree)
            longest = max(map(len, read))
            for length in range(1, longest + 1):
                many = max(read[word] for word in read if len(word) == length)
                word = min(word for word in read if len(word) == length and read[word] == many)
                self.assertEqual(most_read(tree, length), (word, many))
            self.assertIsNone(most_read(tree, longest + 1))

    def test_kinds(self):
        told = most_read(read_tree("a(b(a)b(b))"), 1)
        self.assertIs(type(told), tuple)
        self.assert_text(told[0])
        self.assert_whole(told[1])


class Again(Asking):

    def test_ordinary_trees(self):
        self.assertEqual(longest_again(read_tree("a(b(a)b(b))")), ("ba", [1, 3]))
        self.assertEqual(longest_again(read_tree("a(b(a)b(a))")), ("aba", [2, 4]))
        self.assertEqual(longest_again(read_tree("a(a(a(a)))")), ("aaa", [2, 3]))

    def test_none(self):
        for text in ("q", "a(b)", "a(b(c(d)))", "a(bcd)"):
            self.assertEqual(longest_again(read_tree(text)), ("", []))

    def test_of_several_the_first(self):
        self.assertEqual(longest_again(read_tree("c(bbaa)")), ("ac", [3, 4]))
        self.assertEqual(longest_again(read_tree("b(abba(b))")), ("ab", [1, 4]))

    def test_as_the_words_say(self):
        for tree in trees():
            read = naive.counts(tree)
            found = sorted((-len(word), word) for word in read if word and read[word] > 1)
            word = found[0][1] if found else ""
            self.assertEqual(longest_again(tree), (word, naive.read_at(tree, word) if found else []))

    def test_kinds_and_own(self):
        for text in ("q", "a(b(a)b(b))"):
            tree = read_tree(text)
            told = longest_again(tree)
            self.assertIs(type(told), tuple)
            self.assert_text(told[0])
            self.assert_wholes(told[1], list)
            self.assert_own(longest_again, tree)


class OneMore(Asking):

    def test_an_ordinary_tree(self):
        # The words: a, ba, aba, ba, bba.
        tree = read_tree("a(b(a)b(b))")
        for word, fronts, behinds in (
                ("", [("a", 2), ("b", 3)], [("a", 2), ("b", 3)]), ("a", [("b", 2)], [("b", 1)]),
                ("b", [("a", 1), ("b", 1)], [("a", 2), ("b", 1)]), ("ba", [("a", 1), ("b", 1)], []),
                ("aba", [], []), ("bb", [], [("a", 1)]), ("ab", [], [("a", 1)])):
            self.assertEqual(fronts_of(tree, word), fronts, word)
            self.assertEqual(behinds_of(tree, word), behinds, word)

    def test_one_place(self):
        tree = read_tree("q")
        self.assertEqual((fronts_of(tree, ""), behinds_of(tree, "")), ([("q", 1)], [("q", 1)]))
        self.assertEqual((fronts_of(tree, "q"), behinds_of(tree, "q")), ([], []))

    def test_all_letters(self):
        tree = ((-1,) + (0,) * 52, "m" + samples.ALL_LETTERS[::-1] * 2)
        self.assertEqual(fronts_of(tree, "m"), [(letter, 2) for letter in samples.ALL_LETTERS])
        self.assertEqual(behinds_of(tree, "m"), [("m", 2)])

    def test_as_the_words_say(self):
        for tree in trees():
            read = naive.counts(tree)
            for k, word in enumerate(sorted(read)):
                if k % (1 + len(read) // 60) == 0:
                    self.assertEqual(fronts_of(tree, word), [
                        (letter, read[letter + word]) for letter in samples.ALL_LETTERS if letter + word in read])
                    self.assertEqual(behinds_of(tree, word), [
                        (letter, read[word + letter]) for letter in samples.ALL_LETTERS if word + letter in read])

    def test_not_read(self):
        tree = read_tree("a(b(a)b(b))")
        for asked in (fronts_of, behinds_of):
            for word in NOT_READ + ("aa", "bab", "c", "abab"):
                self.assert_refused(NoWord, asked, tree, word)

    def test_what_is_no_word_is_read_nowhere(self):
        tree = read_tree("a(b(a)b(b))")
        for asked in (fronts_of, behinds_of, number_of):
            for thing in samples.things() + [0, ("a",), ["a"], {"a": 1}]:
                self.assert_refused(NoWord, asked, tree, thing)

    def test_kinds_and_own(self):
        tree = read_tree("a(b(a)b(b))")
        for asked in (fronts_of, behinds_of):
            for word in ("", "a", "b", "aba"):
                told = asked(tree, word)
                self.assertIs(type(told), list)
                for pair in told:
                    self.assertIs(type(pair), tuple)
                    self.assert_text(pair[0])
                    self.assert_whole(pair[1])
                self.assert_own(asked, tree, word)


class Closed(Asking):

    def test_an_ordinary_tree(self):
        # The words: a, ba, aba, ba, bba.
        self.assertEqual(closed_words(read_tree("a(b(a)b(b))")),
                         [("a", 2), ("aba", 1), ("b", 3), ("ba", 2), ("bba", 1)])

    def test_ends(self):
        self.assertEqual(closed_words(read_tree("q")), [("q", 1)])
        self.assertEqual(closed_words((samples.path(60), "a" * 60)), [("a" * k, 61 - k) for k in range(1, 61)])
        self.assertEqual(closed_words((samples.star(60), "a" * 60)), [("a", 60), ("aa", 59)])
        self.assertEqual(closed_words((samples.star(60), "a" + "b" * 59)), [("a", 1), ("ba", 59)])

    def test_as_the_words_say(self):
        for tree in trees():
            read = naive.counts(tree)
            self.assertEqual(closed_words(tree), [
                (word, read[word]) for word in naive.unlike(tree)
                if all(read.get(word + letter) != read[word] for letter in samples.ALL_LETTERS)])

    def test_kinds_and_own(self):
        tree = read_tree("a(b(a)b(b))")
        told = closed_words(tree)
        self.assertIs(type(told), list)
        for pair in told:
            self.assertIs(type(pair), tuple)
            self.assert_text(pair[0])
            self.assert_whole(pair[1])
        self.assert_own(closed_words, tree)


if __name__ == "__main__":
    unittest.main()
