"""Promise [5]: trees, their places, and what stands above and beneath; with [2] and [3]."""

import fractions
import itertools
import unittest

from tests import samples
from tests.asking import Asking
from upwords.trees import above_of, beneath_of, bough_of, deep_of, is_leaf, is_tree


def chain_above(tree, place):
    found = []
    while tree[0][place] != -1:
        place = tree[0][place]
        found.append(place)
    return found


class IsTree(Asking):

    def test_trees_of_one_to_sixty_places(self):
        for many in range(1, 61):
            for ups in samples.shapes(many):
                self.assertIs(is_tree((ups, "q" * many)), True)

    def test_all_letters(self):
        for tree in samples.many_trees():
            self.assertIs(is_tree(tree), True)
        for letter in samples.ALL_LETTERS:
            self.assertIs(is_tree(((-1,), letter)), True)

    def test_every_small_row_of_numbers(self):
        for many in range(1, 6):
            right = set(samples.all_shapes(many))
            for ups in itertools.product(range(-2, many + 1), repeat=many):
                self.assertIs(is_tree((ups, "a" * many)), ups in right, ups)

    def test_sixty_one_places_and_none(self):
        for shape in (samples.path, samples.star, samples.comb, samples.halved):
            self.assertIs(is_tree((shape(61), "a" * 61)), False)
            self.assertIs(is_tree((shape(400), "a" * 400)), False)
        self.assertIs(is_tree(((), "")), False)

    def test_a_first_number_that_is_not_minus_one(self):
        for first in (0, 1, -2, None, "", False, True, 10 ** 59, -10 ** 59):
            self.assertIs(is_tree(((first,), "a")), False)
            self.assertIs(is_tree(((first, 0), "ab")), False)

    def test_a_number_that_is_neither_ahead_nor_above(self):
        for ups in ((-1, -1), (-1, 1), (-1, 0, 2), (-1, 0, 0, 1), (-1, 0, 1, 0, 1), (-1, 0, 1, 0, 2),
                    (-1, 0, -2), (-1, 0, 1, 2, 1, 3), (-1, 0, 10 ** 59), (-1, 5, 0), (-1, 2, 1), (-1, 0, -1)):
            self.assertIs(is_tree((ups, "a" * len(ups))), False, ups)
        long = samples.path(60)
        self.assertIs(is_tree((long[:59] + (59,), "a" * 60)), False)
        self.assertIs(is_tree((long[:59] + (-1,), "a" * 60)), False)
        self.assertIs(is_tree((samples.star(59) + (57,), "a" * 60)), False)

    def test_no_truths_in_a_numbers_place(self):
        self.assertIs(is_tree(((-1, False), "ab")), False)
        self.assertIs(is_tree(((-1, 0, True), "abc")), False)
        self.assertIs(is_tree(((-1, 0, False), "abc")), False)
        self.assertIs(is_tree(((True, 0), "ab")), False)

    def test_nothing_but_whole_numbers(self):
        for thing in samples.things():
            self.assertIs(is_tree(((-1, thing), "ab")), False, repr(thing)[:40])
            self.assertIs(is_tree(((-1, 0, thing, 0), "abcd")), False, repr(thing)[:40])

    def test_what_is_only_as_great_as_a_whole_number(self):
        self.assertIs(is_tree(((-1, fractions.Fraction(0)), "ab")), False)
        self.assertIs(is_tree(((fractions.Fraction(-1), 0), "ab")), False)

    def test_letters_that_are_no_small_ones(self):
        for sign in ("A", "Z", "`", "{", " ", "\n", "0", "(", ")", "-", "\u00e9", "\u0430", "\u00df", "\uff41"):
            self.assertIs(is_tree(((-1,), sign)), False, sign)
            self.assertIs(is_tree(((-1, 0, 1), "a" + sign + "b")), False, sign)
            self.assertIs(is_tree(((-1, 0, 1), "ab" + sign)), False, sign)

    def test_unlike_lengths(self):
        self.assertIs(is_tree(((-1,), "")), False)
        self.assertIs(is_tree(((-1,), "ab")), False)
        self.assertIs(is_tree(((-1, 0), "a")), False)
        self.assertIs(is_tree(((), "a")), False)
        self.assertIs(is_tree((samples.path(60), "a" * 59)), False)
        self.assertIs(is_tree((samples.path(59), "a" * 60)), False)
        self.assertIs(is_tree((samples.path(61), "a" * 60)), False)

    def test_lists_in_a_tuples_place(self):
        self.assertIs(is_tree([(-1, 0), "ab"]), False)
        self.assertIs(is_tree(([-1, 0], "ab")), False)
        self.assertIs(is_tree(((-1, 0), ["a", "b"])), False)
        self.assertIs(is_tree(((-1, 0), ("a", "b"))), False)
        self.assertIs(is_tree(({-1: 0, 0: 0}, "ab")), False)
        self.assertIs(is_tree(((-1, 0), b"ab")), False)
        self.assertIs(is_tree(("ab", (-1, 0))), False)

    def test_parts_more_or_fewer(self):
        self.assertIs(is_tree(((-1, 0), "ab", "ab")), False)
        self.assertIs(is_tree(((-1, 0),)), False)
        self.assertIs(is_tree(((-1, 0), "ab", None)), False)
        self.assertIs(is_tree((((-1, 0), "ab"),)), False)

    def test_anything(self):
        for thing in samples.things():
            name = repr(thing)[:40]
            self.assertIs(is_tree(thing), False, name)
            self.assertIs(is_tree((thing, "a")), False, name)
            self.assertIs(is_tree(((-1,), thing)), False, name)
            self.assertIs(is_tree((thing, thing)), False, name)


class Places(Asking):

    def test_an_ordinary_tree(self):
        tree = ((-1, 0, 0, 2), "abcd")
        self.assertEqual([above_of(tree, k) for k in range(4)], [None, 0, 0, 2])
        self.assertEqual([beneath_of(tree, k) for k in range(4)], [[1, 2], [], [3], []])
        self.assertEqual([is_leaf(tree, k) for k in range(4)], [False, True, False, True])
        self.assertEqual([bough_of(tree, k) for k in range(4)], [(0, 4), (1, 2), (2, 4), (3, 4)])
        self.assertEqual([deep_of(tree, k) for k in range(4)], [0, 1, 1, 2])

    def test_one_place(self):
        tree = ((-1,), "a")
        self.assertIsNone(above_of(tree, 0))
        self.assertEqual(beneath_of(tree, 0), [])
        self.assertIs(is_leaf(tree, 0), True)
        self.assertEqual(bough_of(tree, 0), (0, 1))
        self.assertEqual(deep_of(tree, 0), 0)

    def test_sixty_places(self):
        tall, wide = (samples.path(60), "a" * 60), (samples.star(60), "a" * 60)
        self.assertEqual((above_of(tall, 59), above_of(wide, 59)), (58, 0))
        self.assertEqual((beneath_of(tall, 0), beneath_of(wide, 0)), ([1], list(range(1, 60))))
        self.assertEqual((deep_of(tall, 59), deep_of(wide, 59)), (59, 1))
        self.assertEqual((bough_of(tall, 30), bough_of(wide, 30)), ((30, 60), (30, 31)))
        self.assertEqual((bough_of(tall, 59), bough_of(wide, 0)), ((59, 60), (0, 60)))

    def test_every_place_as_the_words_say(self):
        for tree in samples.many_trees():
            chains = [chain_above(tree, k) for k in range(len(tree[1]))]
            for place, chain in enumerate(chains):
                bough = [k for k, other in enumerate(chains) if k == place or place in other]
                beneath = [k for k, other in enumerate(chains) if other[:1] == [place]]
                self.assertEqual(above_of(tree, place), chain[0] if chain else None)
                self.assertEqual(beneath_of(tree, place), beneath)
                self.assertIs(is_leaf(tree, place), beneath == [])
                self.assertEqual(list(range(*bough_of(tree, place))), bough)
                self.assertEqual(deep_of(tree, place), len(chain))

    def test_kinds(self):
        tree = (samples.again(20), "abcd" * 5)
        for place in range(20):
            if place:
                self.assert_whole(above_of(tree, place))
            self.assert_wholes(beneath_of(tree, place), list)
            self.assertIs(type(is_leaf(tree, place)), bool)
            self.assert_wholes(bough_of(tree, place), tuple)
            self.assert_whole(deep_of(tree, place))

    def test_told_lists_are_the_askers_own(self):
        for tree in (((-1,), "a"), ((-1, 0, 0, 2), "abcd"), (samples.star(60), "a" * 60)):
            for place in range(len(tree[1])):
                self.assert_own(beneath_of, tree, place)


if __name__ == "__main__":
    unittest.main()
