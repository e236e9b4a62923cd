"""Promises [34] to [36]: papers that show classes, words read nowhere and how many there are; with [2] to [4]."""

import fractions
import itertools
import unittest

from tests import naive, samples
from tests.asking import Asking
from upwords.papers import classes_shown, many_paper, many_shown, nowhere_paper, nowhere_shown
from upwords.words import classes_of
from upwords.written import read_tree

# The words a, ba, ca, bca, ba; the classes 0, 1, 3, 2, 1.
TREE = read_tree("a(bc(b)b)")
CLASSES = (0, 1, 3, 2, 1)


def classes(tree):
    words = naive.words(tree)
    unlike = sorted(set(words))
    return tuple(unlike.index(word) for word in words)


def others_of(numbers):
    """Tuples not far from this one, and other things alike to it."""
    found = [numbers[:-1], numbers[1:], numbers + (0,), numbers + (max(numbers + (0,)) + 1,), numbers * 2, list(numbers),
             dict(enumerate(numbers)), str(numbers), (numbers,), None, set(numbers), tuple(k + 1 for k in numbers)]
    for k, number in enumerate(numbers):
        for other in (number + 1, number - 1, number + 10 ** 59, -number - 1, str(number), None, (number,), [number],
                      fractions.Fraction(number), bool(number)):
            found.append(numbers[:k] + (other,) + numbers[k + 1:])
    for k in range(1, len(numbers)):
        if numbers[k - 1] != numbers[k]:
            found.append(numbers[:k - 1] + (numbers[k], numbers[k - 1]) + numbers[k + 1:])
    return found + ([] if numbers == numbers[::-1] else [numbers[::-1]])


class Classes(Asking):

    def test_an_ordinary_tree(self):
        self.assertIs(classes_shown(TREE, CLASSES), True)
        for thing in ((0, 1, 3, 2, 4), (0, 1, 2, 3, 1), (0, 1, 4, 2, 1), (1, 2, 4, 3, 2), (0, 1, 1, 1, 1), (0,) * 5):
            self.assertIs(classes_shown(TREE, thing), False)

    def test_just_the_classes_show(self):
        for tree in samples.many_trees():
            told = classes_of(tree, 60)
            self.assertEqual(tuple(told), classes(tree))
            self.assertIs(classes_shown(tree, tuple(told)), True)
            self.assertIs(classes_shown(tree, told), False)

    def test_only_the_classes_of_all_small_tuples(self):
        for tree in samples.small_trees(4):
            for thing in itertools.product(range(-1, len(tree[1]) + 1), repeat=len(tree[1])):
                self.assertIs(classes_shown(tree, thing), thing == classes(tree))

    def test_other_things(self):
        for tree in samples.few_trees()[::3] + [TREE, ((-1,), "q")]:
            for thing in others_of(classes(tree))[::1 + len(tree[1]) // 10]:
                self.assertIs(classes_shown(tree, thing), False)

    def test_shorter_beginnings_are_others(self):
        tree = (samples.path(60), "a" * 60)
        self.assertIs(classes_shown(tree, tuple(range(60))), True)
        for length in (0, 1, 2, 30, 59):
            self.assertIs(classes_shown(tree, tuple(classes_of(tree, length))), False)

    def test_truths_are_no_numbers(self):
        for thing in ((False, True, 3, 2, 1), (False, 1, 3, 2, 1), (0, True, 3, 2, 1), (0, 1, 3, 2, True)):
            self.assertEqual(thing, CLASSES)
            self.assertIs(classes_shown(TREE, thing), False)
        self.assertIs(classes_shown(((-1,), "q"), (False,)), False)
        self.assertIs(classes_shown(((-1,), "q"), (0,)), True)

    def test_anything(self):
        for thing in samples.things():
            for tried in (thing, (thing,) * 5, CLASSES[:4] + (thing,), (thing,) + CLASSES[1:], (CLASSES, thing)):
                self.assertIs(classes_shown(TREE, tried), False)
            self.assertIs(classes_shown(((-1,), "q"), thing), thing == (0,))


def nowhere(tree, word):
    """The paper, by all places in their order."""
    words = naive.words(tree)
    below = [(other, place) for place, other in enumerate(words) if other < word]
    above = [(other, place) for place, other in enumerate(words) if other > word]
    lowest = min((place for other, place in below if other == max(below)[0]), default=None)
    return classes(tree), lowest, min(above)[1] if above else None


def is_nowhere(tree, word, below, above):
    """Whether places, or None, tell so with the classes."""
    words, numbers = naive.words(tree), classes(tree)
    if below is not None and not words[below] < word:
        return False
    if above is not None and (not words[above] > word or words[above].startswith(word)):
        return False
    if below is None or above is None:
        return (below is None) == (above is not None and numbers[above] == 0) and (
            above is None) == (below is not None and numbers[below] == max(numbers))
    return numbers[below] == numbers[above] - 1


class Nowhere(Asking):

    def test_an_ordinary_tree(self):
        for word, below, above in (("aa", 0, 1), ("ab", 0, 1), ("bab", 1, 3), ("bb", 1, 3), ("bcb", 3, 2), ("bd", 3, 2),
                                   ("cb", 2, None), ("z", 2, None), ("caa", 2, None)):
            self.assertEqual(nowhere_paper(TREE, word), (CLASSES, below, above), word)
            self.assertIs(nowhere_shown(TREE, word, (CLASSES, below, above)), True)
        for word in ("", "a", "b", "ba", "bc", "bca", "c", "ca"):
            self.assertIsNone(nowhere_paper(TREE, word), word)

    def test_none_at_either_end(self):
        tree = read_tree("b(cc)")
        for word, below, above in (("a", None, 0), ("az", None, 0), ("ba", 0, 1), ("bz", 0, 1), ("ca", 0, 1), ("cc", 1, None),
                                   ("d", 1, None)):
            self.assertEqual(nowhere_paper(tree, word), ((0, 1, 1), below, above), word)
            for first in (None, 0, 1, 2):
                for second in (None, 0, 1, 2):
                    # Other places of the same classes show it too, nothing else does.
                    right = (first == below or (first == 2 and below == 1)) and (
                        second == above or (second == 2 and above == 1))
                    self.assertIs(nowhere_shown(tree, word, ((0, 1, 1), first, second)), right, (word, first, second))

    def test_just_of_words_that_are_read_nowhere(self):
        for tree in samples.few_trees():
            for word in samples.words_about(naive.words(tree))[::2]:
                if naive.read_at(tree, word):
                    self.assertIsNone(nowhere_paper(tree, word))
                else:
                    paper = nowhere_paper(tree, word)
                    self.assertEqual(paper, nowhere(tree, word))
                    self.assertIs(nowhere_shown(tree, word, paper), True)

    def test_every_pair_of_places(self):
        for tree in samples.small_trees(4)[::2] + [TREE]:
            numbers = classes(tree)
            chosen = [None] + list(range(len(tree[1])))
            for word in samples.all_texts("ab", 3) + ["c", "ac", "bc", "cc"]:
                found = False
                for below in chosen:
                    for above in chosen:
                        told = nowhere_shown(tree, word, (numbers, below, above))
                        self.assertIs(told, is_nowhere(tree, word, below, above), (tree, word, below, above))
                        found = found or told
                # Whoever wrote it: what is let by is so, and where it is so there is a paper.
                self.assertIs(found, naive.read_at(tree, word) == [])

    def test_pairs_of_places_of_greater_trees(self):
        for tree in samples.few_trees()[::8]:
            words = naive.words(tree)
            chosen = [None] + list(range(0, len(words), 1 + len(words) // 9)) + [len(words) - 1]
            for word in samples.words_about(words)[::9]:
                for below in chosen:
                    for above in chosen:
                        self.assertIs(nowhere_shown(tree, word, (classes(tree), below, above)),
                                      is_nowhere(tree, word, below, above))

    def test_below_and_above_exchanged(self):
        for word, below, above in (("aa", 0, 1), ("bb", 1, 3), ("bd", 3, 2)):
            self.assertIs(nowhere_shown(TREE, word, (CLASSES, above, below)), False)
            self.assertIs(nowhere_shown(TREE, word, (below, CLASSES, above)), False)
            self.assertIs(nowhere_shown(TREE, word, (below, above, CLASSES)), False)

    def test_an_above_that_begins_with_the_word(self):
        # b stands between a and ba, and is read.
        self.assertIs(nowhere_shown(TREE, "b", (CLASSES, 0, 1)), False)
        self.assertIs(nowhere_shown(TREE, "c", (CLASSES, 3, 2)), False)
        self.assertIs(nowhere_shown(TREE, "", (CLASSES, None, 0)), False)
        self.assertIs(nowhere_shown(TREE, "a", (CLASSES, None, 0)), False)
        self.assertIs(nowhere_shown(TREE, "a", (CLASSES, None, 1)), False)

    def test_both_none(self):
        for tree in (TREE, ((-1,), "q")):
            for word in ("", "a", "q", "z"):
                self.assertIs(nowhere_shown(tree, word, (classes(tree), None, None)), False)
        self.assertIs(nowhere_shown(((-1,), "q"), "a", ((0,), None, 0)), True)
        self.assertIs(nowhere_shown(((-1,), "q"), "z", ((0,), 0, None)), True)
        self.assertIs(nowhere_shown(((-1,), "q"), "qq", ((0,), 0, None)), True)
        self.assertIs(nowhere_shown(((-1,), "q"), "q", ((0,), 0, None)), False)
        self.assertIs(nowhere_shown(((-1,), "q"), "q", ((0,), None, 0)), False)

    def test_truths_are_no_places(self):
        for paper in ((CLASSES, False, 1), (CLASSES, 0, True), (CLASSES, False, True)):
            self.assertEqual(paper, (CLASSES, 0, 1))
            self.assertIs(nowhere_shown(TREE, "aa", paper), False)
        tree = read_tree("b(c)")
        self.assertIs(nowhere_shown(tree, "a", ((0, 1), None, False)), False)
        self.assertIs(nowhere_shown(tree, "d", ((0, 1), True, None)), False)

    def test_classes_that_don_t_show(self):
        for other in others_of(CLASSES):
            self.assertIs(nowhere_shown(TREE, "aa", (other, 0, 1)), False)
        # As if ca were the next one behind ba.
        self.assertIs(nowhere_shown(TREE, "bca", ((0, 1, 2, 3, 1), 1, 2)), False)

    def test_anything(self):
        right = (CLASSES, 0, 1)
        for thing in samples.things() + [5, 6, -5]:
            for tried in (thing, (thing, 0, 1), (CLASSES, thing, 1), (CLASSES, 0, thing), (thing,) * 3, right + (thing,)):
                self.assertIs(nowhere_shown(TREE, "aa", tried), False)
            if thing is not None:
                self.assertIs(nowhere_shown(TREE, "z", (CLASSES, 2, thing)), False)
                self.assertIs(nowhere_shown(read_tree("b"), "a", ((0,), thing, 0)), False)
        for tried in (right[:2], right[1:], list(right), right + (0,), (list(CLASSES), 0, 1), (right,), {CLASSES: (0, 1)}, "aa",
                      (CLASSES, (0, 1)), (CLASSES, [0], 1), (CLASSES, "0", 1), (CLASSES, 0, "1"),
                      (CLASSES, fractions.Fraction(0), 1), (CLASSES, 0, -4), (CLASSES, -5, 1)):
            self.assertIs(nowhere_shown(TREE, "aa", tried), False)
        self.assertIs(nowhere_shown(TREE, "aa", right), True)

    def test_kinds(self):
        paper = nowhere_paper(TREE, "aa")
        self.assertIs(type(paper), tuple)
        self.assert_wholes(paper[0], tuple)
        self.assert_whole(paper[1])
        self.assert_whole(paper[2])
        self.assertIs(type(nowhere_paper(TREE, "z")), tuple)


def alikes(tree):
    found = []
    unlike = sorted(set(naive.words(tree)))
    for one, other in zip(unlike, unlike[1:]):
        found.append(max(k for k in range(len(one) + 1) if one[:k] == other[:k]))
    return tuple(found)


class Many(Asking):

    def test_an_ordinary_tree(self):
        # a, ba, bca, ca: nine letters, one of them alike.
        self.assertEqual(many_paper(TREE), (CLASSES, (0, 1, 0)))
        self.assertEqual(many_shown(TREE, (CLASSES, (0, 1, 0))), 7)

    def test_of_all_trees(self):
        for tree in samples.many_trees() + samples.small_trees(5):
            paper = many_paper(tree)
            self.assertEqual(paper, (classes(tree), alikes(tree)))
            self.assertEqual(many_shown(tree, paper), len(naive.unlike(tree)))

    def test_a_word_ahead_of_one_letter(self):
        # a, aa, aaa: the root's word ahead; the next one by the words above.
        tree = (samples.path(3), "aaa")
        self.assertEqual((many_paper(tree), many_shown(tree, ((0, 1, 2), (1, 2)))), (((0, 1, 2), (1, 2)), 3))
        tree = (samples.path(60), "a" * 60)
        self.assertEqual(many_paper(tree), (tuple(range(60)), tuple(range(1, 60))))
        self.assertEqual(many_shown(tree, many_paper(tree)), 60)

    def test_one_class(self):
        tree = ((-1,), "q")
        self.assertEqual(many_paper(tree), ((0,), ()))
        self.assertEqual(many_shown(tree, ((0,), ())), 1)
        for thing in (((0,), (0,)), ((0,), []), ((0,), None), ((0,),), ((False,), ()), ((0,), ((),)), ((), ()), ((0,), "")):
            self.assertIsNone(many_shown(tree, thing))

    def test_all_small_alikes(self):
        for tree in samples.small_trees(4)[::2]:
            right = alikes(tree)
            for given in itertools.product(range(-1, 5), repeat=len(right)):
                told = many_shown(tree, (classes(tree), given))
                self.assertEqual(told, len(naive.unlike(tree)) if given == right else None)

    def test_other_alikes(self):
        for tree in samples.few_trees()[::3] + [TREE]:
            numbers, right = classes(tree), alikes(tree)
            for given in others_of(right)[::1 + len(right) // 8] if right else []:
                self.assertIsNone(many_shown(tree, (numbers, given)), given)

    def test_all_one_more_or_fewer(self):
        # Each one more than it is: the least of others is one more, too.
        for tree in samples.few_trees()[::3]:
            right = alikes(tree)
            if right:
                for more in (1, -1, 10 ** 59):
                    self.assertIsNone(many_shown(tree, (classes(tree), tuple(part + more for part in right))))
                    raised = tuple(part + more if part > 1 else part for part in right)
                    if raised != right:
                        self.assertIsNone(many_shown(tree, (classes(tree), raised)))

    def test_truths_are_no_numbers(self):
        for given in ((False, 1, 0), (0, True, 0), (0, 1, False), (False, True, False)):
            self.assertEqual(given, (0, 1, 0))
            self.assertIsNone(many_shown(TREE, (CLASSES, given)))
        self.assertIsNone(many_shown(TREE, ((0, True, 3, 2, 1), (0, 1, 0))))

    def test_classes_that_don_t_show(self):
        for other in others_of(CLASSES):
            self.assertIsNone(many_shown(TREE, (other, (0, 1, 0))))

    def test_anything(self):
        right = (CLASSES, (0, 1, 0))
        for thing in samples.things():
            for tried in (thing, (thing, (0, 1, 0)), (CLASSES, thing), (thing, thing), right + (thing,), (CLASSES, (thing,) * 3),
                          (CLASSES, (0, 1, thing))):
                self.assertIsNone(many_shown(TREE, tried))
        for tried in (list(right), right[::-1], right[:1], right[1:], (CLASSES, [0, 1, 0]), (CLASSES, (0, 1)), (right,), 7,
                      (CLASSES, (0, 1, 0, 0)), (CLASSES, 0, 1, 0), (CLASSES + (0, 1, 0)), dict([right]), (list(CLASSES), right[1]),
                      (CLASSES, (0, fractions.Fraction(1), 0)), (CLASSES, "010")):
            self.assertIsNone(many_shown(TREE, tried))

    def test_kinds(self):
        paper = many_paper(TREE)
        self.assertIs(type(paper), tuple)
        self.assert_wholes(paper[0], tuple)
        self.assert_wholes(paper[1], tuple)
        self.assert_whole(many_shown(TREE, paper))
        self.assert_wholes(many_paper(((-1,), "q"))[1], tuple)


if __name__ == "__main__":
    unittest.main()
