"""Promises [32] and [33]: leaves that come and go, and deeds undone; with [2], [3] and [4]."""

import fractions
import unittest

from tests import naive, samples
from tests.asking import Asking
from upwords.errors import NoChange, NoLeaf, NoLetter, NoNumber, NoPlace, TooMany
from upwords.keeper import Keeper
from upwords.trees import is_tree
from upwords.written import read_tree, show_tree

NO_LETTERS = ["", "aa", "ab", "A", "0", " ", "-", ".", "*", "a ", " a", "\n", "a\n", None, 0, 1, True, ("a",), ["a"], b"a"]


class Grown:
    """A tree as nested lists [letter, those beneath], in which a leaf comes and goes by plain steps."""

    def __init__(self, tree):
        nodes = [[letter, []] for letter in tree[1]]
        for place in range(1, len(nodes)):
            nodes[tree[0][place]][1].append(nodes[place])
        self.root = nodes[0]

    def walked(self):
        """Pairs (node, the one above), in the places' order."""
        found = []

        def walk(node, above):
            found.append((node, above))
            for lower in node[1]:
                walk(lower, node)

        walk(self.root, None)
        return found

    def put(self, place, number, letter):
        node = [letter, []]
        self.walked()[place][0][1].insert(number, node)
        return [other is node for other, above in self.walked()].index(True)

    def take(self, place):
        node, above = self.walked()[place]
        above[1].pop([other is node for other in above[1]].index(True))

    def tree(self):
        nodes = [node for node, above in self.walked()]
        ups = [-1 if above is None else [other is above for other in nodes].index(True) for node, above in self.walked()]
        return tuple(ups), "".join(node[0] for node in nodes)


def triple(tree, place):
    return place, naive.order(tree).index(place), naive.kept(tree).index(place)


def leaves(tree):
    """But the root."""
    return [place for place in range(1, len(tree[1])) if place not in tree[0]]


class Checked(Asking):

    def assert_now(self, keeper, tree, deeds):
        """All that is told is told of the tree made afresh."""
        self.assertEqual(keeper.tree_now(), tree)
        self.assertIs(is_tree(keeper.tree_now()), True)
        self.assertEqual(keeper.order_now(), naive.order(tree))
        self.assertEqual(keeper.rows_now(), naive.rows(tree))
        self.assertEqual(keeper.many_now(), len(naive.unlike(tree)))
        self.assertEqual(keeper.deeds_now(), deeds)
        words = naive.words(tree)
        for word in ("", words[0], words[-1], words[len(words) // 2][:2], "zq", words[-1] + "a"):
            self.assertEqual(keeper.count_now(word), len(naive.read_at(tree, word)))


class Deeds(Checked):

    def test_an_ordinary_tree(self):
        keeper = Keeper(read_tree("a(bc(d))"))
        self.assertEqual(keeper.put(0, 1, "b"), (2, 2, 2))
        self.assertEqual(show_tree(keeper.tree_now()), "a(bbc(d))")
        self.assertEqual(keeper.put(3, 0, "a"), (4, 1, 4))
        self.assertEqual(show_tree(keeper.tree_now()), "a(bbc(ad))")
        self.assertEqual(keeper.order_now(), [0, 4, 1, 2, 3, 5])
        self.assertEqual(keeper.take(1), (1, 2, 1))
        self.assertEqual(show_tree(keeper.tree_now()), "a(bc(ad))")
        self.assertEqual((keeper.deeds_now(), keeper.count_now("ac"), keeper.many_now()), (3, 1, 10))
        self.assertEqual([keeper.back(), keeper.back(), keeper.back()], [(1, 2, 1), (4, 1, 4), (2, 2, 2)])
        self.assert_now(keeper, read_tree("a(bc(d))"), 0)

    def test_as_the_first_the_last_and_between(self):
        for text, place, number, grown, leaf in (
                ("a", 0, 0, "a(z)", 1), ("a(b)", 0, 0, "a(zb)", 1), ("a(b)", 0, 1, "a(bz)", 2), ("a(b)", 1, 0, "a(b(z))", 2),
                ("a(b(c)d)", 0, 0, "a(zb(c)d)", 1), ("a(b(c)d)", 0, 1, "a(b(c)zd)", 3), ("a(b(c)d)", 0, 2, "a(b(c)dz)", 4),
                ("a(b(c)d)", 1, 0, "a(b(zc)d)", 2), ("a(b(c)d)", 1, 1, "a(b(cz)d)", 3), ("a(b(c)d)", 2, 0, "a(b(c(z))d)", 3),
                ("a(b(c)d)", 3, 0, "a(b(c)d(z))", 4), ("a(b(c(e))d)", 1, 1, "a(b(c(e)z)d)", 4)):
            keeper = Keeper(read_tree(text))
            told = keeper.put(place, number, "z")
            self.assertEqual(show_tree(keeper.tree_now()), grown)
            self.assertEqual(told, triple(read_tree(grown), leaf))
            # Taken it tells the same as it stands ahead of that.
            self.assertEqual(keeper.take(leaf), told)
            self.assert_now(keeper, read_tree(text), 2)

    def test_every_put_and_take_of_small_trees(self):
        for tree in samples.small_trees(4)[::2]:
            for place in range(len(tree[1])):
                for number in range(len(naive.beneath(tree, place)) + 1):
                    keeper, grown = Keeper(tree), Grown(tree)
                    leaf = grown.put(place, number, "ab"[number % 2])
                    self.assertEqual(keeper.put(place, number, "ab"[number % 2]), triple(grown.tree(), leaf))
                    self.assertEqual(keeper.tree_now(), grown.tree())
            for place in leaves(tree):
                keeper, grown = Keeper(tree), Grown(tree)
                grown.take(place)
                self.assertEqual(keeper.take(place), triple(tree, place))
                self.assertEqual(keeper.tree_now(), grown.tree())

    def test_any_deeds_in_any_order(self):
        for seed, tree in enumerate(samples.few_trees()[::2]):
            self.go_on(tree, seed, 12)

    def test_many_deeds(self):
        for seed, text in enumerate(("a", "a(bc(d))", "a(a(a)a)")):
            self.go_on(read_tree(text), seed, 150)

    def go_on(self, tree, seed, many):
        numbers = samples.drawn(seed)
        keeper, now, stack = Keeper(tree), tree, []
        for k in range(many):
            turn = next(numbers) % 5
            if turn == 0 and stack:
                now, told = stack.pop()
                self.assertEqual(keeper.back(), told)
            elif turn in (1, 2) and leaves(now):
                place = leaves(now)[next(numbers) % len(leaves(now))]
                stack.append((now, triple(now, place)))
                self.assertEqual(keeper.take(place), triple(now, place))
                grown = Grown(now)
                grown.take(place)
                now = grown.tree()
            elif len(now[1]) < 60:
                place = next(numbers) % len(now[1])
                number = next(numbers) % (len(naive.beneath(now, place)) + 1)
                letter = "abz"[next(numbers) % 3]
                grown = Grown(now)
                leaf = grown.put(place, number, letter)
                stack.append((now, triple(grown.tree(), leaf)))
                now = grown.tree()
                self.assertEqual(keeper.put(place, number, letter), triple(now, leaf))
            self.assert_now(keeper, now, len(stack))
        # All undone, the last one first.
        while stack:
            now, told = stack.pop()
            self.assertEqual(keeper.back(), told)
            self.assert_now(keeper, now, len(stack))
        self.assert_now(keeper, tree, 0)
        self.assert_refused(NoChange, keeper.back)

    def test_a_put_changes_no_other_place_s_word(self):
        for seed, tree in enumerate(samples.few_trees()):
            if len(tree[1]) < 60:
                numbers = samples.drawn(seed)
                place = next(numbers) % len(tree[1])
                keeper = Keeper(tree)
                order, words = keeper.order_now(), naive.words(tree)
                leaf, rank, row = keeper.put(place, 0, "abz"[seed % 3])
                moved = [other + 1 if other >= leaf else other for other in order]
                self.assertEqual(keeper.order_now(), moved[:rank] + [leaf] + moved[rank:])
                after = naive.words(keeper.tree_now())
                self.assertEqual(after[:leaf] + after[leaf + 1:], words)

    def test_to_just_sixty_places(self):
        for beneath_last in (True, False):
            keeper = Keeper(((-1,), "a"))
            for k in range(1, 60):
                self.assertEqual(keeper.put(k - 1 if beneath_last else 0, 0, "a")[0], k if beneath_last else 1)
            self.assert_now(keeper, (samples.path(60) if beneath_last else samples.star(60), "a" * 60), 59)
            self.assert_refused(TooMany, keeper.put, 0, 0, "a")
            self.assert_refused(TooMany, keeper.put, 59, 0, "z")
            # Room again.
            keeper.take(59)
            self.assert_refused(NoPlace, keeper.put, 59, 0, "z")
            keeper.put(58, 0, "z")
            self.assert_refused(TooMany, keeper.put, 0, 0, "a")
            self.assertEqual(keeper.deeds_now(), 61)

    def test_down_to_the_root_alone(self):
        for tree in samples.few_trees()[::5]:
            keeper = Keeper(tree)
            told = []
            while len(keeper.tree_now()[1]) > 1:
                told.append(keeper.take(leaves(keeper.tree_now())[0]))
            self.assert_now(keeper, ((-1,), tree[1][0]), len(tree[1]) - 1)
            self.assert_refused(NoLeaf, keeper.take, 0)
            for triple_told in told[::-1]:
                self.assertEqual(keeper.back(), triple_told)
            self.assert_now(keeper, tree, 0)

    def test_deeds_behind_an_undone_one(self):
        keeper = Keeper(read_tree("a(b)"))
        keeper.put(0, 0, "x")
        keeper.put(0, 0, "y")
        keeper.back()
        self.assertEqual(keeper.put(1, 0, "z"), (2, 3, 3))
        self.assertEqual(show_tree(keeper.tree_now()), "a(x(z)b)")
        self.assertEqual(keeper.back(), (2, 3, 3))
        self.assertEqual(keeper.back(), (1, 2, 1))
        self.assert_refused(NoChange, keeper.back)
        self.assert_now(keeper, read_tree("a(b)"), 0)
        # An undone deed is none that stands: it isn't undone again.
        self.assertEqual(keeper.take(1), (1, 1, 1))
        self.assertEqual((keeper.back(), keeper.deeds_now()), ((1, 1, 1), 0))


class Refused(Checked):

    TREE = read_tree("a(bc(d))")

    def asked(self):
        """A keeper with two deeds that stand."""
        keeper = Keeper(self.TREE)
        keeper.put(0, 2, "e")
        keeper.take(1)
        return keeper

    def assert_nothing_changed(self, keeper):
        self.assert_now(keeper, read_tree("a(c(d)e)"), 2)

    def test_no_place(self):
        keeper = self.asked()
        for place in (4, 5, -1, -4, 10 ** 59, True, False, None, "0", "", (0,), [0], fractions.Fraction(0)):
            self.assert_refused(NoPlace, keeper.put, place, 0, "a")
            self.assert_refused(NoPlace, keeper.take, place)
            # Ahead of all else that is due.
            self.assert_refused(NoPlace, keeper.put, place, -1, "A")
        for thing in samples.things():
            self.assert_refused(NoPlace, keeper.put, thing, thing, thing)
            self.assert_refused(NoPlace, keeper.take, thing)
        self.assert_nothing_changed(keeper)

    def test_no_number(self):
        keeper = self.asked()
        for place, most in ((0, 2), (1, 1), (2, 0), (3, 0)):
            for number in (most + 1, most + 2, -1, -2, 10 ** 59, True, False, None, "0", (0,), fractions.Fraction(0)):
                self.assert_refused(NoNumber, keeper.put, place, number, "a")
                self.assert_refused(NoNumber, keeper.put, place, number, "A")
            for thing in samples.things():
                self.assert_refused(NoNumber, keeper.put, place, thing, thing)
        self.assert_nothing_changed(keeper)

    def test_no_letter(self):
        keeper = self.asked()
        for letter in NO_LETTERS + samples.things():
            self.assert_refused(NoLetter, keeper.put, 0, 0, letter)
            self.assert_refused(NoLetter, keeper.put, 3, 0, letter)
        self.assert_nothing_changed(keeper)

    def test_too_many_goes_last(self):
        keeper = Keeper((samples.star(60), "a" * 60))
        self.assert_refused(TooMany, keeper.put, 0, 59, "a")
        self.assert_refused(NoLetter, keeper.put, 0, 59, "A")
        self.assert_refused(NoNumber, keeper.put, 0, 60, "A")
        self.assert_refused(NoNumber, keeper.put, 0, 60, "a")
        self.assert_refused(NoPlace, keeper.put, 60, 60, "A")
        self.assert_refused(NoPlace, keeper.put, 60, 0, "a")
        self.assert_now(keeper, (samples.star(60), "a" * 60), 0)
        self.assertEqual(keeper.take(59), (59, 59, 59))
        self.assertEqual(keeper.put(0, 58, "a"), (59, 59, 59))

    def test_no_leaf(self):
        keeper = self.asked()
        for place in (0, 1):
            self.assert_refused(NoLeaf, keeper.take, place)
        self.assert_nothing_changed(keeper)
        # The root alone has none beneath it, and can't be taken.
        self.assert_refused(NoLeaf, Keeper(((-1,), "q")).take, 0)
        for tree in samples.few_trees()[::4]:
            asked = Keeper(tree)
            for place in range(len(tree[1])):
                if place not in leaves(tree):
                    self.assert_refused(NoLeaf, asked.take, place)
            self.assertEqual((asked.tree_now(), asked.deeds_now()), (tree, 0))

    def test_no_change(self):
        for tree in (self.TREE, ((-1,), "q")):
            keeper = Keeper(tree)
            self.assert_refused(NoChange, keeper.back)
            keeper.put(0, 0, "z")
            keeper.back()
            self.assert_refused(NoChange, keeper.back)
            self.assert_now(keeper, tree, 0)

    def test_what_stands_is_undone_behind_refusals(self):
        keeper = self.asked()
        for refused, given in ((keeper.put, (9, 0, "a")), (keeper.put, (0, 9, "a")), (keeper.put, (0, 0, "")),
                               (keeper.take, (0,)), (keeper.take, (9,))):
            with self.assertRaises(ValueError):
                refused(*given)
        self.assertEqual((keeper.back(), keeper.back()), ((1, 1, 1), (4, 4, 3)))
        self.assert_refused(NoChange, keeper.back)
        self.assert_now(keeper, self.TREE, 0)


class Own(Checked):

    def test_two_keepers_beside_one_another(self):
        tree = read_tree("a(bc(d))")
        one, other = Keeper(tree), Keeper(tree)
        one.put(0, 0, "z")
        self.assert_now(other, tree, 0)
        self.assert_refused(NoChange, other.back)
        other.take(1)
        other.take(1 + 1)
        self.assert_now(one, read_tree("a(zbc(d))"), 1)
        one.back()
        self.assert_now(other, read_tree("a(c)"), 2)
        # The tree that was handed in stays as it was.
        self.assertEqual(tree, ((-1, 0, 0, 2), "abcd"))

    def test_told_lists_are_the_asker_s_own(self):
        keeper = Keeper(read_tree("a(bc(d))"))
        keeper.put(0, 0, "z")
        self.assert_own(keeper.order_now)
        early = keeper.order_now()
        kept = list(early)
        keeper.put(0, 0, "a")
        self.assertEqual(early, kept)
        early.clear()
        self.assert_now(keeper, read_tree("a(azbc(d))"), 2)

    def test_kinds(self):
        keeper = Keeper(read_tree("a(bc(d))"))
        for told in (keeper.put(0, 0, "z"), keeper.take(1), keeper.back(), keeper.back()):
            self.assert_wholes(told, tuple)
            self.assertEqual(len(told), 3)
        self.assert_wholes(keeper.order_now(), list)
        ups, labels = keeper.tree_now()
        self.assert_wholes(ups, tuple)
        self.assert_text(labels)
        rows = keeper.rows_now()
        self.assertIs(type(rows), tuple)
        self.assert_text(rows[0])
        for truths in rows[1:]:
            self.assertIs(type(truths), tuple)
            self.assertEqual({type(truth) for truth in truths}, {bool})
        for number in (keeper.count_now("a"), keeper.count_now("q"), keeper.many_now(), keeper.deeds_now()):
            self.assert_whole(number)

    def test_words_counted(self):
        for tree in samples.few_trees()[::6]:
            keeper = Keeper(tree)
            for word in samples.words_about(naive.words(tree))[::3]:
                self.assertEqual(keeper.count_now(word), len(naive.read_at(tree, word)))


if __name__ == "__main__":
    unittest.main()
