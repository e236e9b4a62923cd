"""Promises [26] and [27]: ways down, tries, and two of them laid together; with [2], [3] and [4]."""

import fractions
import unittest

from tests import naive, samples
from tests.asking import Asking
from upwords.errors import NoTries, TooMany
from upwords.tries import is_trie, laid_over, laid_under, trie_of, ways_down
from upwords.written import read_tree, show_tree

TRIES = ("a", "a(b)", "a(bc)", "a(a(a)b)", "a(b(c)c(b))", "a(b(acz)z)", "a(a(a(a)b)c)", "a(bcdefgh)", "a(z)")


def some_tries():
    """Of all sample trees the tries of their ways, with the letter a at the root."""
    found = {}
    for ups, labels in samples.few_trees():
        found[naive.trie(naive.ways((ups, "a" + labels[1:])))] = True
    return list(found)


class IsTrie(Asking):

    def test_ordinary_ones(self):
        for text in TRIES:
            self.assertIs(is_trie(read_tree(text)), True, text)
        for text in ("a(bb)", "a(cb)", "a(b(zz)c)", "a(b(c)b(d))", "a(bcb)", "a(abca)", "a(b(c(d(e(gf)))))", "a(acb)"):
            self.assertIs(is_trie(read_tree(text)), False, text)

    def test_one_place_and_a_path(self):
        for many in range(1, 61):
            self.assertIs(is_trie((samples.path(many), "a" * many)), True)
            self.assertIs(is_trie((samples.path(many), ("zyx" * 20)[:many])), True)
        self.assertIs(is_trie((samples.path(61), "a" * 61)), False)

    def test_stars(self):
        for many in range(27):
            self.assertIs(is_trie((samples.star(many + 1), "m" + samples.ALL_LETTERS[:many])), True)
        self.assertIs(is_trie((samples.star(28), "m" + samples.ALL_LETTERS + "z")), False)
        self.assertIs(is_trie((samples.star(27), "m" + samples.ALL_LETTERS[::-1])), False)
        for k in range(25):
            letters = list(samples.ALL_LETTERS)
            letters[k] = letters[k + 1]
            self.assertIs(is_trie((samples.star(27), "a" + "".join(letters))), False)
            letters[k + 1] = samples.ALL_LETTERS[k]
            self.assertIs(is_trie((samples.star(27), "a" + "".join(letters))), False)

    def test_every_small_tree_and_many_others(self):
        for tree in samples.small_trees(5) + samples.many_trees():
            self.assertIs(is_trie(tree), naive.is_trie(tree))

    def test_letters_of_those_beneath_other_places_don_t_matter(self):
        self.assertIs(is_trie(read_tree("z(b(z)c(a(m)b))")), True)

    def test_tuples_not_lists(self):
        ups, labels = read_tree("a(bc)")
        for thing in ([ups, labels], (list(ups), labels), (ups, list(labels)), [list(ups), labels], (ups, tuple(labels)),
                      (labels, ups), (ups,), (ups, labels, labels), (ups + (0,), labels), (ups, labels + "d"),
                      (ups, labels.upper()), (ups, None), (None, labels), ((ups, labels),), {ups: labels},
                      ((-1, 0, False), "abc"), ((-1, 0, fractions.Fraction(0)), "abc"), ((), ""), ((0,), "a")):
            self.assertIs(is_trie(thing), False, thing)

    def test_no_trees(self):
        for ups in ((-1, 0, 2), (-1, 1), (0, 0), (-1, -1), (-1, 0, 0, 1), (-2, 0)):
            self.assertIs(is_trie((ups, "abcd"[:len(ups)])), False, ups)

    def test_anything(self):
        for thing in samples.things() + list(TRIES) + [0, ""]:
            for tried in (thing, (thing, "a"), ((-1,), thing), ((thing,), "a"), (thing, thing)):
                self.assertIs(is_trie(tried), tried == ((-1,), "a"))


class Ways(Asking):

    def test_an_ordinary_tree(self):
        self.assertEqual(ways_down(read_tree("a(bc(d)b)")), ["a", "ab", "ac", "acd", "ab"])
        self.assertEqual(ways_down(((-1,), "q")), ["q"])

    def test_place_by_place(self):
        for ups, labels in samples.many_trees():
            told = ways_down((ups, labels))
            self.assertEqual(len(told), len(ups))
            self.assertEqual(told[0], labels[0])
            for place in range(1, len(ups)):
                self.assertEqual(told[place], told[ups[place]] + labels[place])

    def test_kinds_and_own(self):
        tree = read_tree("a(bc(d)b)")
        self.assertIs(type(ways_down(tree)), list)
        for way in ways_down(tree):
            self.assert_text(way)
        self.assert_own(ways_down, tree)


class TrieOf(Asking):

    def assert_trie_of(self, tree):
        trie, places = trie_of(tree)
        ways = naive.ways(tree)
        self.assertEqual(trie, naive.trie(ways))
        self.assertIs(is_trie(trie), True)
        self.assertTrue(naive.is_trie(trie))
        # Just these ways, each once, and each place's own.
        own = naive.ways(trie)
        self.assertEqual(sorted(own), sorted(set(ways)))
        self.assertEqual([own[place] for place in places], ways)

    def test_an_ordinary_tree(self):
        trie, places = trie_of(read_tree("a(b(c)b(da)a)"))
        self.assertEqual(show_tree(trie), "a(ab(acd))")
        self.assertEqual(places, [0, 2, 4, 2, 5, 3, 1])

    def test_one_place_a_path_and_stars(self):
        self.assertEqual(trie_of(((-1,), "q")), (((-1,), "q"), [0]))
        self.assertEqual(trie_of((samples.star(60), "a" * 60)), (((-1, 0), "aa"), [0] + [1] * 59))
        self.assertEqual(trie_of((samples.star(4), "azyx")), (((-1, 0, 0, 0), "axyz"), [0, 3, 2, 1]))
        tree = (samples.path(60), "a" * 60)
        self.assertEqual(trie_of(tree), (tree, list(range(60))))

    def test_boughs_that_come_again(self):
        for many in samples.SIZES:
            self.assert_trie_of((samples.again(many), ("abcd" * many)[:many]))
        trie, places = trie_of((samples.again(60), ("rabac" * 60)[:60]))
        self.assertEqual(len(places), 60)
        self.assertLess(len(trie[1]), 60)

    def test_every_small_tree_and_many_others(self):
        for tree in samples.small_trees(5) + samples.few_trees():
            self.assert_trie_of(tree)

    def test_of_a_trie_itself(self):
        for trie in some_tries() + [read_tree(text) for text in TRIES]:
            self.assertEqual(trie_of(trie), (trie, list(range(len(trie[1])))))
        for tree in samples.small_trees(5):
            self.assertEqual(trie_of(tree) == (tree, list(range(len(tree[1])))), naive.is_trie(tree))

    def test_kinds_and_own(self):
        for tree in (read_tree("a(b(c)b(da)a)"), ((-1,), "q")):
            told = trie_of(tree)
            self.assertIs(type(told), tuple)
            self.assertIs(type(told[0]), tuple)
            self.assert_wholes(told[0][0], tuple)
            self.assert_text(told[0][1])
            self.assert_wholes(told[1], list)
            self.assert_own(trie_of, tree)


class Laid(Asking):

    def assert_laid(self, one, other):
        ways, others = naive.ways(one), naive.ways(other)
        over, under = set(ways) | set(others), set(ways) & set(others)
        self.assertEqual(laid_under(one, other), self.told_of(under, ways, others))
        if len(over) > 60:
            self.assert_refused(TooMany, laid_over, one, other)
        else:
            self.assertEqual(laid_over(one, other), self.told_of(over, ways, others))

    def told_of(self, all_ways, ways, others):
        trie = naive.trie(all_ways)
        pairs = [(ways.index(way) if way in ways else None, others.index(way) if way in others else None)
                 for way in naive.ways(trie)]
        return trie, pairs

    def test_ordinary_ones(self):
        one, other = read_tree("a(b(d)c)"), read_tree("a(ac(d))")
        trie, pairs = laid_over(one, other)
        self.assertEqual(show_tree(trie), "a(ab(d)c(d))")
        self.assertEqual(pairs, [(0, 0), (None, 1), (1, None), (2, None), (3, 2), (None, 3)])
        trie, pairs = laid_under(one, other)
        self.assertEqual((show_tree(trie), pairs), ("a(c)", [(0, 0), (3, 2)]))

    def test_the_same_place_number_isn_t_the_same_way(self):
        one, other = read_tree("a(b(c))"), read_tree("a(bc)")
        self.assertEqual(laid_over(one, other), (read_tree("a(b(c)c)"), [(0, 0), (1, 1), (2, None), (None, 2)]))
        self.assertEqual(laid_under(one, other), (read_tree("a(b)"), [(0, 0), (1, 1)]))

    def test_roots_alone(self):
        root, other = ((-1,), "q"), read_tree("q(ab)")
        self.assertEqual(laid_over(root, root), (root, [(0, 0)]))
        self.assertEqual(laid_over(root, other), (other, [(0, 0), (None, 1), (None, 2)]))
        self.assertEqual(laid_over(other, root), (other, [(0, 0), (1, None), (2, None)]))
        for one in (root, other):
            self.assertEqual(laid_under(one, root), (root, [(0, 0)]))

    def test_all_pairs_of_small_ones(self):
        tries = [tree for tree in samples.small_trees(5) if naive.is_trie(tree) and tree[1][0] == "a"]
        for one in tries:
            for other in tries[::3]:
                self.assert_laid(one, other)

    def test_greater_ones(self):
        tries = some_tries()
        for k, one in enumerate(tries):
            for other in tries[k % 6::6]:
                self.assert_laid(one, other)
                self.assert_laid(other, one)

    def test_the_same_trie_twice(self):
        for trie in some_tries():
            pairs = [(place, place) for place in range(len(trie[1]))]
            self.assertEqual(laid_over(trie, trie), (trie, pairs))
            self.assertEqual(laid_under(trie, trie), (trie, pairs))

    def test_either_way_about(self):
        tries = [trie for trie in some_tries() if len(trie[1]) <= 26]
        for one, other in zip(tries, tries[1:] + tries[:1]):
            for laid in (laid_over, laid_under):
                if laid == laid_under or len(one[1]) + len(other[1]) <= 61:
                    trie, pairs = laid(one, other)
                    self.assertEqual(laid(other, one), (trie, [(there, here) for here, there in pairs]))

    def test_sixty_places_are_told_and_no_more(self):
        for many in (1, 2, 30, 58, 59):
            one = (samples.path(many + 1), "a" + "b" * many)
            for more, told in ((59 - many, True), (60 - many, False), (59, False)):
                other = (samples.path(more + 1), "a" + "c" * more)
                for first, second in ((one, other), (other, one)):
                    if told:
                        self.assertEqual(len(laid_over(first, second)[0][1]), 60)
                        self.assertIs(is_trie(laid_over(first, second)[0]), True)
                    else:
                        self.assert_refused(TooMany, laid_over, first, second)
                    self.assertEqual(laid_under(first, second)[0], ((-1,), "a"))

    def test_sixty_and_sixty_that_have_ways_in_common(self):
        one, other = (samples.path(60), "a" * 60), (samples.path(60), "a" * 59 + "b")
        self.assert_refused(TooMany, laid_over, one, other)
        self.assertEqual(laid_under(one, other), ((samples.path(59), "a" * 59), [(k, k) for k in range(59)]))
        self.assertEqual(laid_over(one, one), (one, [(k, k) for k in range(60)]))
        shorter = (samples.path(59), "a" * 59)
        self.assertEqual(laid_over(shorter, other), (other, [(k, k) for k in range(59)] + [(None, 59)]))

    def test_unlike_letters_at_the_roots(self):
        for one, other in ((((-1,), "a"), ((-1,), "b")), (read_tree("a(bc)"), read_tree("b(bc)")),
                           (read_tree("z(a)"), read_tree("a(z)")),
                           # More than sixty places would come of these: this refusal goes first.
                           ((samples.path(60), "a" * 60), (samples.path(60), "b" * 60))):
            for laid in (laid_over, laid_under):
                self.assert_refused(NoTries, laid, one, other)
                self.assert_refused(NoTries, laid, other, one)

    def test_what_is_no_trie(self):
        trie = (samples.path(60), "a" * 60)
        for thing in samples.things() + [
                read_tree("a(bb)"), read_tree("a(cb)"), (samples.star(60), "a" * 60), (samples.path(61), "a" * 61),
                (list(trie[0]), trie[1]), list(trie), "a", "a(b)", (samples.path(60), "a" * 59), ((-1, False), "aa"),
                (samples.halved(60), samples.lettered(60, samples.ALL_LETTERS, 60))]:
            for laid in (laid_over, laid_under):
                self.assert_refused(NoTries, laid, trie, thing)
                self.assert_refused(NoTries, laid, thing, trie)
                self.assert_refused(NoTries, laid, thing, thing)
                self.assert_refused(NoTries, laid, ((-1,), "a"), thing)

    def test_kinds_and_own(self):
        one, other = read_tree("a(b(d)c)"), read_tree("a(ac(d))")
        for laid in (laid_over, laid_under):
            told = laid(one, other)
            self.assertIs(type(told), tuple)
            self.assert_wholes(told[0][0], tuple)
            self.assert_text(told[0][1])
            self.assertIs(type(told[1]), list)
            for pair in told[1]:
                self.assertIs(type(pair), tuple)
                self.assertEqual(len(pair), 2)
                self.assert_wholes([part for part in pair if part is not None], list)
            self.assert_own(laid, one, other)


if __name__ == "__main__":
    unittest.main()
