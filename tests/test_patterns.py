"""Promise [29]: patterns, and how a word is parted to their items; with [2] and [3]."""

import re
import unittest

from tests import naive, samples
from tests.asking import Asking
from tests.pattern_samples import NO_PATTERNS, PATTERNS, all_texts_of, any_pattern, is_pattern_of, no_patterns
from upwords.errors import NoPattern
from upwords.patterns import is_pattern, shares_of


class IsPattern(Asking):

    def test_patterns(self):
        for pattern in PATTERNS:
            self.assertIs(is_pattern(pattern), True, pattern)
            self.assertIs(is_pattern_of(pattern), True, pattern)

    def test_every_letter(self):
        for letter in samples.ALL_LETTERS:
            for pattern in (letter, letter + "*", "[" + letter + "]", "[" + letter + "]*", letter + letter):
                self.assertIs(is_pattern(pattern), True, pattern)
        for first in samples.ALL_LETTERS:
            for second in samples.ALL_LETTERS:
                self.assertIs(is_pattern("[" + first + second + "]"), first < second)

    def test_what_is_none(self):
        for text in NO_PATTERNS:
            self.assertIs(is_pattern(text), False, text)

    def test_none_to_forty_signs(self):
        for many in range(41):
            self.assertIs(is_pattern("a" * many), True)
            self.assertIs(is_pattern("." * many), True)
            self.assertIs(is_pattern(("[ab]*" * 8)[-many:] if many % 5 == 0 else "q" * many), True)
        for many in (41, 42, 60, 400, 4000):
            self.assertIs(is_pattern("a" * many), False)
            self.assertIs(is_pattern("a*" * many), False)
        # Signs are counted, not items.
        self.assertIs(is_pattern("[abc]" * 8), True)
        self.assertIs(is_pattern("[abc]" * 8 + "*"), False)
        self.assertIs(is_pattern("a*" * 20), True)
        self.assertIs(is_pattern("a*" * 20 + "a"), False)

    def test_every_short_text(self):
        for text in all_texts_of("ab.[]*", 6):
            self.assertIs(is_pattern(text), is_pattern_of(text), text)
        for text in all_texts_of("bcA [-]*\n", 4):
            self.assertIs(is_pattern(text), is_pattern_of(text), text)

    def test_every_sign(self):
        for number in list(range(32, 127)) + [10]:
            sign = chr(number)
            for text in (sign, "a" + sign, sign + "a", "[" + sign + "]", "[a" + sign + "]", "a*" + sign):
                self.assertIs(is_pattern(text), is_pattern_of(text), text)

    def test_anything(self):
        for thing in no_patterns():
            self.assertIs(is_pattern(thing), False)


class Shares(Asking):

    def test_ordinary_ones(self):
        for pattern, word, shares in (
                ("abc", "abc", (1, 1, 1)), ("a.c", "axc", (1, 1, 1)), ("a[xy]c", "axc", (1, 1, 1)), ("a*", "aaa", (3,)),
                ("a*b", "b", (0, 1)), ("a*b", "aab", (2, 1)), (".*b.*", "abab", (1, 1, 2)), ("[ab]*c", "abbac", (4, 1)),
                ("a[xy]c", "azc", None), ("abc", "ab", None), ("ab", "abc", None), ("a*b", "aa", None), (".", "", None),
                ("[ab]*", "abc", None), ("..", "a", None), ("a*", "b", None)):
            self.assertEqual(shares_of(pattern, word), shares, (pattern, word))

    def test_no_signs_and_no_letters(self):
        self.assertEqual(shares_of("", ""), ())
        self.assertIsNone(shares_of("", "a"))
        self.assertEqual(shares_of("a*", ""), (0,))
        self.assertEqual(shares_of("a*.*[bc]*", ""), (0, 0, 0))
        for pattern in ("a", ".", "[a]", "a*b", ".*."):
            self.assertIsNone(shares_of(pattern, ""))

    def test_of_several_the_first(self):
        for pattern, word, shares in (
                ("a*a*", "aaa", (0, 3)), ("a*a*a*", "aa", (0, 0, 2)), (".*.*", "abc", (0, 3)), ("a*a", "aaa", (2, 1)),
                ("a*aa*", "aaa", (0, 1, 2)), (".*[ab]*", "abba", (0, 4)), ("[ab]*.*", "abba", (0, 4)),
                ("a*.*b", "aabb", (0, 3, 1)), (".*a.*", "babab", (1, 1, 3)), ("a*[ab]*b*", "aabbc", None),
                ("a*[ab]*b*", "aabb", (0, 2, 2)), ("a*b*a*", "aba", (1, 1, 1)), ("a*b*.*", "aba", (0, 0, 3)),
                (".*b*c", "abbc", (1, 2, 1)), ("[ac]*a*", "aca", (2, 1)), ("[ac]*a*c*", "acac", (2, 1, 1))):
            self.assertEqual(shares_of(pattern, word), shares, (pattern, word))

    def test_every_short_pattern_and_word(self):
        words = samples.all_texts("ab", 4)
        for pattern in [text for text in all_texts_of("ab.*", 5) if is_pattern_of(text)]:
            for word in words:
                self.assertEqual(shares_of(pattern, word), naive.shares(pattern, word), (pattern, word))

    def test_as_python_finds_them(self):
        # A star that takes as few as it can, tried from the left, finds the first shares too.
        for seed in range(300):
            letters = ("ab", "abc", samples.ALL_LETTERS)[seed % 3]
            pattern = any_pattern(seed, 4 + seed % 9, letters)
            sought = re.compile("".join(f"({item}{'*?' if star else ''})" for item, star in naive.items(pattern)))
            for length in range(10):
                word = samples.lettered(length, letters[:1 + length % len(letters)], seed + length)
                found = sought.fullmatch(word)
                shares = None if found is None else tuple(len(part) for part in found.groups())
                self.assertEqual(shares_of(pattern, word), shares, (pattern, word))

    def test_many_items_and_letters(self):
        for seed in range(60):
            letters = ("a", "ab", "abc", samples.ALL_LETTERS)[seed % 4]
            pattern = any_pattern(seed, 40, letters)
            for length in (0, 1, 10, 20, 40, 59, 60):
                word = samples.lettered(length, letters, seed * 7 + length)
                self.assertEqual(shares_of(pattern, word), naive.shares(pattern, word), (pattern, word))

    def test_forty_items_and_sixty_letters_of_one_letter(self):
        for item in ("a", ".", "[a]"):
            many = 40 // len(item)
            self.assertIsNone(shares_of(item * many, "a" * 60))
            self.assertIsNone(shares_of(item * many, "a" * (many - 1)))
            self.assertEqual(shares_of(item * many, "a" * many), (1,) * many)
        self.assertEqual(shares_of("a*" * 20, "a" * 60), (0,) * 19 + (60,))
        self.assertEqual(shares_of(".*" * 20, "a" * 60), (0,) * 19 + (60,))
        self.assertEqual(shares_of("a*" * 19 + "a", "a" * 60), (0,) * 18 + (59, 1))
        self.assertEqual(shares_of("a" * 38 + "a*", "a" * 60), (1,) * 38 + (22,))
        self.assertEqual(shares_of("a*" + "a" * 38, "a" * 60), (22,) + (1,) * 38)
        # None of the many ways to part them comes to the end.
        self.assertIsNone(shares_of("a*" * 19 + "b", "a" * 60))
        self.assertIsNone(shares_of("a*" * 20, "a" * 59 + "b"))

    def test_what_is_told_is_a_parting(self):
        for seed in range(200):
            letters = ("a", "ab", "abc")[seed % 3]
            pattern = any_pattern(seed, 20, letters)
            word = samples.lettered(seed % 30, letters, seed)
            shares = shares_of(pattern, word)
            if shares is not None:
                self.assertEqual(sum(shares), len(word))
                at = 0
                for (item, star), share in zip(naive.items(pattern), shares, strict=True):
                    self.assertTrue(star or share == 1)
                    self.assertTrue(all(naive.taken(item, letter) for letter in word[at:at + share]))
                    at += share

    def test_what_is_no_pattern(self):
        for thing in no_patterns():
            for word in ("", "a", "ab"):
                self.assert_refused(NoPattern, shares_of, thing, word)

    def test_kinds(self):
        for pattern, word in (("", ""), ("a*b", "aab"), ("a*b", "b"), (".", "a")):
            self.assert_wholes(shares_of(pattern, word), tuple)


if __name__ == "__main__":
    unittest.main()
