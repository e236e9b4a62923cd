"""Promise [25]: boughs that come again told once, and where two nets part; with [2], [3] and [4]."""

import functools
import unittest

from tests import samples
from tests.asking import Asking
from tests.net_samples import any_net, great_net, great_nets, small_nets, some_nets, unfolded
from upwords.folds import folded_anew, folded_net, knots_of, parted_at
from upwords.nets import is_net, size_of, unfolded_tree
from upwords.written import read_tree


def boughs_of(tree):
    """Each place's bough, as a text."""
    ups, labels = tree
    texts = [""] * len(ups)
    for place in range(len(ups) - 1, -1, -1):
        texts[place] = labels[place] + "(" + "".join(texts[k] for k in range(len(ups)) if ups[k] == place) + ")"
    return texts


def naive_folded(tree):
    """The net and the numbers of the knots, by the boughs' texts."""
    ups, labels = tree
    texts = boughs_of(tree)
    met = list(dict.fromkeys(texts[::-1]))
    net = [None] * len(met)
    for place, text in enumerate(texts):
        lower = tuple(met.index(texts[k]) for k in range(len(ups)) if ups[k] == place)
        net[met.index(text)] = (labels[place], lower)
    return tuple(net), [met.index(text) for text in texts]


class Folded(Asking):

    def test_an_ordinary_tree(self):
        tree = read_tree("c(b(aa)ab(aa))")
        self.assertEqual(folded_net(tree), (("a", ()), ("b", (0, 0)), ("c", (1, 0, 1))))
        self.assertEqual(knots_of(tree), [2, 1, 0, 0, 0, 1, 0, 0])

    def test_as_they_are_met_from_the_last_place_to_the_root(self):
        tree = read_tree("r(x(ab)y(cd))")
        self.assertEqual(folded_net(tree), (
            ("d", ()), ("c", ()), ("y", (1, 0)), ("b", ()), ("a", ()), ("x", (4, 3)), ("r", (5, 2))))
        self.assertEqual(knots_of(tree), [6, 5, 4, 3, 2, 1, 0])

    def test_the_order_beneath_makes_boughs_unlike(self):
        tree = read_tree("r(x(ab)x(ba))")
        self.assertEqual(folded_net(tree), (("a", ()), ("b", ()), ("x", (1, 0)), ("x", (0, 1)), ("r", (3, 2))))

    def test_one_place_a_path_and_a_star(self):
        self.assertEqual((folded_net(((-1,), "q")), knots_of(((-1,), "q"))), ((("q", ()),), [0]))
        self.assertEqual(folded_net((samples.path(60), "a" * 60)), great_net(60, 1))
        self.assertEqual(knots_of((samples.path(60), "a" * 60)), list(range(59, -1, -1)))
        self.assertEqual(folded_net((samples.star(60), "a" * 60)), (("a", ()), ("a", (0,) * 59)))

    def test_as_the_boughs_say(self):
        for tree in samples.many_trees()[::2] + samples.small_trees(5)[::3]:
            net, numbers = naive_folded(tree)
            self.assertEqual(folded_net(tree), net)
            self.assertEqual(knots_of(tree), numbers)

    def test_it_unfolds_to_the_tree(self):
        for tree in samples.few_trees():
            net = folded_net(tree)
            self.assertIs(is_net(net), True)
            self.assertEqual(unfolded(net)[:2], tree)
            self.assertEqual(list(unfolded(net)[2]), knots_of(tree))
            self.assertEqual(unfolded_tree(net), tree)

    def test_no_net_of_fewer_knots_does(self):
        least = {}
        for net in small_nets(3, 3):
            tree = unfolded(net)[:2]
            least[tree] = min(len(net), least.get(tree, len(net)))
        for tree in samples.small_trees(4):
            self.assertEqual(len(folded_net(tree)), least.get(tree, 4))
        for tree in samples.few_trees():
            self.assertEqual(len(folded_net(tree)), len(set(boughs_of(tree))))

    def test_kinds_and_own(self):
        tree = read_tree("c(b(aa)ab(aa))")
        for net in (folded_net(tree), folded_anew(great_net(60, 60))):
            self.assertIs(type(net), tuple)
            for knot in net:
                self.assertIs(type(knot), tuple)
                self.assert_text(knot[0])
                self.assert_wholes(knot[1], tuple)
        self.assert_wholes(knots_of(tree), list)
        self.assert_own(knots_of, tree)


@functools.cache
def shaken(net):
    """A net that unfolds to the same tree, of other knots: some twice, some idle, and in another order."""
    found = [("z", ()), ("q", (0,))]
    twins = []
    for letter, lower in net:
        mine = []
        for turn in (0, 1):
            mine.append(len(found))
            found.append((letter, tuple(twins[k][(turn + at) % 2] for at, k in enumerate(lower))))
        twins.append(mine)
    return tuple(found)


class Anew(Asking):

    def test_an_ordinary_net(self):
        net = (("b", ()), ("a", ()), ("a", ()), ("b", (1, 2)), ("q", (3,)), ("b", (2, 1)), ("c", (3, 0, 5)))
        self.assertEqual(folded_anew(net), (("a", ()), ("b", (0, 0)), ("b", ()), ("c", (1, 2, 1))))

    def test_as_the_tree_is_folded(self):
        for net in some_nets() + small_nets(3, 2):
            ups, labels, knots = unfolded(net)
            self.assertEqual(folded_anew(net), naive_folded((ups, labels))[0])
            if len(ups) <= 60:
                self.assertEqual(folded_anew(net), folded_net(unfolded_tree(net)))

    def test_great_nets(self):
        self.assertEqual(folded_anew(great_net(60, 60)), great_net(60, 60))
        for net in great_nets():
            anew = folded_anew(net)
            self.assertIs(is_net(anew), True)
            self.assertEqual(size_of(anew), size_of(net))
            self.assertEqual(folded_anew(anew), anew)
            self.assertIsNone(parted_at(anew, net))

    def test_great_nets_of_other_knots(self):
        for knots, wide in ((29, 60), (29, 2), (20, 7)):
            net = great_net(knots, wide, "aab")
            other = shaken(net)
            self.assertNotEqual(other, net)
            self.assertEqual(folded_anew(other), net)
            self.assertIsNone(parted_at(other, net))
        for seed in range(5):
            net = any_net(29, seed, 60, "ab")
            self.assertEqual(folded_anew(shaken(net)), folded_anew(net))

    def test_the_order_of_great_ones(self):
        # The last bough is met first, and all in it: d, then c, then x; then b, a and y.
        deep = great_net(50, 60)
        net = deep + (("a", (49,)), ("b", (49,)), ("c", (49,)), ("d", (49,)), ("y", (50, 51)), ("x", (52, 53)),
                      ("r", (54, 55, 49)))
        anew = folded_anew(net)
        self.assertEqual(anew[:50], deep)
        self.assertEqual(anew[50:], (("d", (49,)), ("c", (49,)), ("x", (51, 50)), ("b", (49,)), ("a", (49,)),
                                     ("y", (54, 53)), ("r", (55, 52, 49))))

    def test_it_stays_as_it_was(self):
        net = great_net(60, 60, "ab")
        kept = tuple((letter, tuple(lower)) for letter, lower in net)
        folded_anew(net)
        parted_at(net, net)
        self.assertEqual(net, kept)


def naive_parted(one, other):
    ups, labels, knots = unfolded(one)
    others, letters, tied = unfolded(other)
    for place in range(max(len(ups), len(others))):
        if place >= min(len(ups), len(others)) or labels[place] != letters[place] or ups[place] != others[place]:
            return place
    return None


class Parted(Asking):

    def assert_parted(self, one, other, place):
        self.assertEqual(parted_at(one, other), place)
        self.assertEqual(parted_at(other, one), place)

    def test_ordinary_nets(self):
        for one, other, place in (
                ("a", "a", None), ("a", "b", 0), ("a(b)", "a", 1), ("a(bc)", "a(bd)", 2), ("a(bc)", "a(b(c))", 2),
                ("a(b(c)d)", "a(b(cd))", 3), ("a(b(c)d)", "a(b(c))", 3), ("a(bb)", "a(bbb)", 3),
                ("a(b(cc)b(cc))", "a(b(cc)b(cd))", 6), ("a(b(cc)b(cc))", "a(b(cc)b(cc))", None),
                ("a(b(c)b(c))", "a(b(c(b(c))))", 3)):
            self.assert_parted(folded_net(read_tree(one)), folded_net(read_tree(other)), place)

    def test_all_pairs_of_small_nets(self):
        nets = small_nets(3, 2)[::4]
        for one in nets:
            for other in nets[::3]:
                self.assertEqual(parted_at(one, other), naive_parted(one, other))

    def test_greater_ones_gone_through(self):
        nets = some_nets()[::3]
        for one in nets[::3]:
            for other in nets:
                self.assertEqual(parted_at(one, other), naive_parted(one, other))

    def test_one_place_otherwise(self):
        for tree in samples.few_trees()[::2]:
            ups, labels = tree
            net = folded_net(tree)
            self.assertIsNone(parted_at(net, net))
            for place in range(0, len(labels), 1 + len(labels) // 10):
                letter = "z" if labels[place] != "z" else "y"
                other = (ups, labels[:place] + letter + labels[place + 1:])
                self.assert_parted(net, folded_net(other), place)
            if len(labels) > 1:
                self.assert_parted(net, folded_net((ups[:-1], labels[:-1])), len(labels) - 1)

    def test_the_same_tree_of_other_knots(self):
        for net in some_nets():
            if 2 * len(net) + 2 <= 60:
                self.assert_parted(net, shaken(net), None)
                self.assert_parted(net, folded_anew(net), None)

    def test_great_nets(self):
        net = great_net(60, 60)
        size = size_of(net)
        self.assertIsNone(parted_at(net, net))
        # The first of all the deepest places otherwise.
        self.assert_parted(net, (("b", ()),) + net[1:], 59)
        self.assert_parted(net, net[:-1] + (("b", (58,) * 60),), 0)
        self.assert_parted(net, net[:-1] + (("a", (58,) * 59),), size - size_of(net[:-1]))
        self.assert_parted(net, net[:-1], 59)
        self.assert_parted(net, (("b", ()),), 0)
        self.assert_parted(net, (("a", ()),), 1)

    def test_great_nets_that_part_at_their_last_place(self):
        # Beside a way down to the last places of all, the same boughs again and again.
        alike = great_net(20, 60)
        one, other = alike + (("x", ()),), alike + (("y", ()),)
        for k in range(20, 59):
            one += (("a", (19,) * 59 + (k,)),)
            other += (("a", (19,) * 59 + (k,)),)
        self.assertTrue(is_net(one) and is_net(other))
        self.assertEqual(size_of(one), size_of(other))
        self.assert_parted(one, other, size_of(one) - 1)
        # And where the last one has one more beneath it.
        longer = alike + (("x", (19,)),) + one[21:]
        self.assert_parted(one, longer, size_of(one))

    def test_where_one_ends_sooner_and_the_other_goes_on(self):
        alike = great_net(50, 60)
        size = size_of(alike)
        one = alike + (("b", (49,)), ("r", (50, 49)))
        other = alike + (("b", (49, 49)), ("r", (50,)))
        self.assert_parted(one, other, 2 + size)
        self.assertEqual(size_of(one), size_of(other))

    def test_kinds(self):
        self.assert_whole(parted_at((("a", ()),), (("b", ()),)))
        self.assert_whole(parted_at(great_net(60, 60), great_net(59, 60)))


if __name__ == "__main__":
    unittest.main()
