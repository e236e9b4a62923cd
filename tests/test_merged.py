"""Promise [28]: the words of two trees side by side; with [2], [3] and [4]."""

import unittest

from tests import naive, samples
from tests.asking import Asking
from upwords.merged import both_merged, count_common, longest_common, shortest_own
from upwords.written import read_tree

ONE = read_tree("a(bc(b))")
OTHER = read_tree("a(bb(a)d)")


def pairs_of_trees():
    trees = samples.few_trees()
    small = samples.small_trees(4)
    pairs = [(one, other) for one, other in zip(trees, trees[5:] + trees[:5])]
    pairs += [(one, other) for one in small[::3] for other in small[::5]]
    return pairs + [(other, one) for one, other in pairs[::4]] + [(tree, tree) for tree in trees[::2]]


class Merged(Asking):

    def test_ordinary_trees(self):
        # a, ba, bca, ca and a, ba, ba, aba, da.
        self.assertEqual(both_merged(ONE, OTHER), [
            (0, 0), (1, 0), (1, 3), (0, 1), (1, 1), (1, 2), (0, 3), (0, 2), (1, 4)])
        self.assertEqual(both_merged(OTHER, ONE), [
            (0, 0), (1, 0), (0, 3), (0, 1), (0, 2), (1, 1), (1, 3), (1, 2), (0, 4)])

    def test_alike_words_as_pairs_are_in_order(self):
        star = (samples.star(60), "a" * 60)
        self.assertEqual(both_merged(star, star), [(0, 0), (1, 0)] + [
            (which, place) for which in (0, 1) for place in range(1, 60)])
        self.assertEqual(both_merged(((-1,), "q"), ((-1,), "q")), [(0, 0), (1, 0)])
        self.assertEqual(both_merged(((-1,), "q"), ((-1,), "a")), [(1, 0), (0, 0)])

    def test_any_two(self):
        for one, other in pairs_of_trees():
            told = [(word, 0, place) for place, word in enumerate(naive.words(one))]
            told += [(word, 1, place) for place, word in enumerate(naive.words(other))]
            self.assertEqual(both_merged(one, other), [(which, place) for word, which, place in sorted(told)])

    def test_each_alone_is_in_its_order(self):
        for one, other in pairs_of_trees()[::7]:
            told = both_merged(one, other)
            self.assertEqual([place for which, place in told if which == 0], naive.order(one))
            self.assertEqual([place for which, place in told if which == 1], naive.order(other))

    def test_kinds_and_own(self):
        told = both_merged(ONE, OTHER)
        self.assertIs(type(told), list)
        for pair in told:
            self.assert_wholes(pair, tuple)
            self.assertEqual(len(pair), 2)
        self.assert_own(both_merged, ONE, OTHER)


class Common(Asking):

    def test_ordinary_trees(self):
        # In both: a, b, ba; in the first alone: bc, bca, c, ca; in the other alone: ab, aba, d, da.
        self.assertEqual((count_common(ONE, OTHER), count_common(OTHER, ONE)), (3, 3))
        self.assertEqual((longest_common(ONE, OTHER), longest_common(OTHER, ONE)), ("ba", "ba"))
        self.assertEqual((shortest_own(ONE, OTHER), shortest_own(OTHER, ONE)), ("c", "d"))

    def test_of_several_the_first(self):
        one, other = read_tree("z(yxc)"), read_tree("z(cyx)")
        self.assertEqual(longest_common(one, other), "cz")
        self.assertEqual(longest_common(read_tree("a(dcb)"), read_tree("a(dc)")), "ca")
        self.assertEqual(shortest_own(read_tree("a(dcb)"), read_tree("a(d)")), "b")
        self.assertEqual(shortest_own(read_tree("a(b(a))"), read_tree("a(bc(a))")), "ab")

    def test_where_there_is_none(self):
        one, other = read_tree("a(bc)"), read_tree("d(ef)")
        self.assertEqual((count_common(one, other), longest_common(one, other)), (0, ""))
        self.assertIsNone(shortest_own(one, one))
        self.assertIsNone(shortest_own(read_tree("a(b)"), read_tree("a(b(a)b)")))
        self.assertEqual(shortest_own(read_tree("a(b(a)b)"), read_tree("a(b)")), "ab")

    def test_the_same_tree_twice(self):
        for tree in samples.few_trees():
            unlike = naive.unlike(tree)
            self.assertEqual(count_common(tree, tree), len(unlike))
            longest = max(len(word) for word in unlike)
            self.assertEqual(longest_common(tree, tree), min(word for word in unlike if len(word) == longest))
            self.assertIsNone(shortest_own(tree, tree))

    def test_any_two(self):
        for one, other in pairs_of_trees():
            words, others = set(naive.unlike(one)), set(naive.unlike(other))
            both, own = words & others, words - others
            self.assertEqual(count_common(one, other), len(both))
            self.assertEqual(longest_common(one, other), min(both, key=lambda word: (-len(word), word), default=""))
            self.assertEqual(shortest_own(one, other), min(own, key=lambda word: (len(word), word), default=None))

    def test_either_way_about(self):
        for one, other in pairs_of_trees()[::5]:
            self.assertEqual(count_common(one, other), count_common(other, one))
            self.assertEqual(longest_common(one, other), longest_common(other, one))

    def test_the_least_and_the_greatest(self):
        path, star = (samples.path(60), "a" * 60), (samples.star(60), "a" * 60)
        self.assertEqual((count_common(path, path), longest_common(path, path)), (60, "a" * 60))
        self.assertEqual((count_common(path, star), longest_common(path, star)), (2, "aa"))
        self.assertEqual((shortest_own(path, star), shortest_own(star, path)), ("aaa", None))
        # Sixty places and 26 letters: every beginning of every word unlike.
        long = (samples.path(60), (samples.ALL_LETTERS * 3)[:60])
        self.assertEqual(count_common(long, long), len(naive.unlike(long)))
        self.assertEqual(shortest_own(long, path), "b")

    def test_kinds(self):
        self.assert_whole(count_common(ONE, OTHER))
        self.assert_whole(count_common(ONE, ((-1,), "z")))
        self.assert_text(longest_common(ONE, OTHER))
        self.assert_text(longest_common(ONE, ((-1,), "z")))
        self.assert_text(shortest_own(ONE, OTHER))


if __name__ == "__main__":
    unittest.main()
