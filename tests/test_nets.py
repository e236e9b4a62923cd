"""Promise [24]: nets, and what they unfold to; with [2], [3] and [4]."""

import fractions
import unittest

from tests import naive, samples
from tests.asking import Asking
from tests.net_samples import any_net, great_net, great_nets, small_nets, some_nets, unfolded
from upwords.errors import NoPlace, TooMany
from upwords.nets import count_in, is_net, met_of, size_of, unfolded_tree, word_in
from upwords.trees import is_tree
from upwords.written import show_tree

# Unfolds to c(b(aa)ab(aa)): the knot a stands in it five times, b twice, c once, q not at all.
NET = (("a", ()), ("b", (0, 0)), ("q", (1,)), ("c", (1, 0, 1)))


class IsNet(Asking):

    def test_nets(self):
        for net in [NET, (("z", ()),)] + small_nets(3, 2) + some_nets() + great_nets():
            self.assertIs(is_net(net), True)

    def test_one_to_sixty_knots(self):
        for many in range(1, 61):
            self.assertIs(is_net((("a", ()),) * many), True)
            self.assertIs(is_net(great_net(many, 2)), True)
        for many in (0, 61, 62, 400):
            self.assertIs(is_net((("a", ()),) * many), False)
        self.assertIs(is_net(great_net(61, 1)), False)

    def test_none_to_sixty_numbers(self):
        for many in (0, 1, 2, 59, 60):
            self.assertIs(is_net((("a", ()), ("b", (0,) * many))), True)
        for many in (61, 62, 400):
            self.assertIs(is_net((("a", ()), ("b", (0,) * many))), False)

    def test_numbers_ahead_of_the_knot_alone(self):
        for lower in ((1,), (2,), (-1,), (0, 1), (1, 0), (10 ** 59,), (-10 ** 59,), (False,), (True,), (0, False),
                      (None,), ("0",), ("a",), ((0,),), ([0],), (fractions.Fraction(0),), (0, None)):
            self.assertIs(is_net((("a", ()), ("b", lower))), False, lower)
            self.assertIs(is_net((("a", ()), ("b", lower), ("c", (0, 0)))), False, lower)
        self.assertIs(is_net((("a", (0,)),)), False)
        self.assertIs(is_net((("a", (-1,)),)), False)
        self.assertIs(is_net((("a", ()), ("b", (0,)), ("c", (True,)))), False)
        self.assertIs(is_net((("a", ()), ("b", (0,)), ("c", (1, 0, 1)))), True)
        for k in range(1, 60):
            self.assertIs(is_net((("a", ()),) * k + (("a", (k - 1,)),)), True)
            self.assertIs(is_net((("a", ()),) * k + (("a", (k,)),)), False)

    def test_letters(self):
        for letter in samples.ALL_LETTERS:
            self.assertIs(is_net(((letter, ()),)), True)
        for letter in ("", "aa", "A", "1", " ", "~", "\n", None, 0, True, ["a"], ("a",), b"a"):
            self.assertIs(is_net(((letter, ()),)), False, letter)
            self.assertIs(is_net((("a", ()), (letter, (0,)))), False, letter)

    def test_tuples_not_lists(self):
        for thing in ([("a", ())], (["a", ()],), (("a", []),), [["a", []]], (("a", ()), ("b", [0])), ("a", ()),
                      (("a",),), (("a", (), ()),), (("a", None),), (("a", 0),), (("a", ""),), (("a", {}),), ((),),
                      (((), "a"),), ("a()",), ({"a": ()},), (("a", ()), None), (("a", ()), ()), (None, ("a", ()))):
            self.assertIs(is_net(thing), False, thing)

    def test_anything(self):
        for thing in samples.things():
            for tried in (thing, (thing,), ((thing, ()),), (("a", ()), thing), (("a", ()), ("b", (thing,)))):
                self.assertIs(is_net(tried), False)
            if thing != ():
                self.assertIs(is_net((("a", thing),)), False)


class Unfolded(Asking):

    def test_an_ordinary_net(self):
        self.assertEqual(size_of(NET), 8)
        self.assertEqual(met_of(NET), [5, 2, 0, 1])
        self.assertEqual(show_tree(unfolded_tree(NET)), "c(b(aa)ab(aa))")
        self.assertEqual([word_in(NET, place) for place in range(8)], ["c", "bc", "abc", "abc", "ac", "bc", "abc", "abc"])
        for word, many in (("", 8), ("a", 5), ("ab", 4), ("abc", 4), ("ac", 1), ("b", 2), ("c", 1), ("q", 0),
                           ("bq", 0), ("abcc", 0), ("ba", 0), ("a" * 60, 0)):
            self.assertEqual(count_in(NET, word), many, word)

    def test_one_knot(self):
        net = (("q", ()),)
        self.assertEqual((size_of(net), met_of(net), word_in(net, 0), unfolded_tree(net)), (1, [1], "q", ((-1,), "q")))
        self.assertEqual((count_in(net, ""), count_in(net, "q"), count_in(net, "a"), count_in(net, "qq")), (1, 1, 0, 0))

    def test_knots_that_the_last_one_doesn_t_lead_to(self):
        net = (("a", ()), ("b", (0, 0)), ("c", (1,)), ("d", ()))
        self.assertEqual((size_of(net), met_of(net)), (1, [0, 0, 0, 1]))
        self.assertEqual((count_in(net, "a"), count_in(net, "ab"), count_in(net, "d"), count_in(net, "")), (0, 0, 1, 1))

    def test_as_it_is_gone_through(self):
        for net in some_nets() + small_nets(3, 2):
            ups, labels, knots = unfolded(net)
            self.assertEqual(size_of(net), len(ups))
            self.assertEqual(met_of(net), [knots.count(k) for k in range(len(net))])
            for place in range(0, len(ups), 1 + len(ups) // 20):
                self.assertEqual(word_in(net, place), naive.word_at((ups, labels), place))
            self.assertEqual(word_in(net, len(ups) - 1), naive.word_at((ups, labels), len(ups) - 1))

    def test_words_counted_as_they_are_gone_through(self):
        for net in some_nets()[::2]:
            tree = unfolded(net)[:2]
            words = naive.words(tree)
            for word in samples.words_about(words)[::3]:
                self.assertEqual(count_in(net, word), sum(own.startswith(word) for own in words))
        for net in small_nets(3, 2)[::3]:
            words = naive.words(unfolded(net)[:2])
            for word in samples.all_texts("ab", 3):
                self.assertEqual(count_in(net, word), sum(own.startswith(word) for own in words))

    def test_sixty_places_and_more(self):
        for net in some_nets() + small_nets(3, 2):
            ups, labels, knots = unfolded(net)
            if len(ups) <= 60:
                self.assertEqual(unfolded_tree(net), (ups, labels))
                self.assertIs(is_tree(unfolded_tree(net)), True)
            else:
                self.assert_refused(TooMany, unfolded_tree, net)
        for many in (1, 2, 59, 60):
            self.assertEqual(unfolded_tree(great_net(many, 1)), (samples.path(many), "a" * many))
            self.assertEqual(unfolded_tree((("b", ()), ("a", (0,) * (many - 1)))), (
                samples.star(many), "a" + "b" * (many - 1)))
        self.assert_refused(TooMany, unfolded_tree, (("b", ()), ("a", (0,) * 60)))
        self.assert_refused(TooMany, unfolded_tree, great_net(6, 2))
        self.assertEqual(len(unfolded_tree(great_net(5, 2))[1]), 31)
        for net in great_nets():
            self.assert_refused(TooMany, unfolded_tree, net)

    def test_kinds_and_own(self):
        for net in (NET, great_net(60, 60), (("q", ()),)):
            self.assert_whole(size_of(net))
            self.assert_wholes(met_of(net), list)
            self.assert_text(word_in(net, 0))
            self.assert_whole(count_in(net, "a"))
            self.assert_whole(count_in(net, ""))
            self.assert_own(met_of, net)
        ups, labels = unfolded_tree(NET)
        self.assert_wholes(ups, tuple)
        self.assert_text(labels)


class Great(Asking):

    def test_sizes(self):
        for net, wide, knots in ((great_net(60, 60), 60, 60), (great_net(60, 2, "ab"), 2, 60),
                                 (great_net(59, 7), 7, 59)):
            self.assertEqual(size_of(net), (wide ** knots - 1) // (wide - 1))
            self.assertEqual(met_of(net), [wide ** (knots - 1 - k) for k in range(knots)])
        self.assertGreater(size_of(great_net(60, 60)), 10 ** 104)

    def test_words_of_places(self):
        net = great_net(60, 60, samples.ALL_LETTERS)
        sizes = [(60 ** k - 1) // 59 for k in range(61)]
        way_down = "".join(net[k][0] for k in range(60))
        self.assertEqual(word_in(net, 0), way_down[59:])
        for deep in range(60):
            # The first and the last place so deep, but the deepest beneath which there are none.
            self.assertEqual(word_in(net, deep), way_down[59 - deep:])
            last = sum(1 + 59 * sizes[59 - k] for k in range(deep))
            self.assertEqual(word_in(net, last), way_down[59 - deep:])
        self.assertEqual(word_in(net, sizes[60] - 1), way_down)
        # Straight behind the first bough beneath the root, then within the seventh.
        self.assertEqual(word_in(net, 1 + sizes[59]), way_down[58:])
        self.assertEqual(word_in(net, sizes[59]), way_down)
        self.assertEqual(word_in(net, 1 + 6 * sizes[59] + 1 + 3 * sizes[58]), way_down[57:])

    def test_words_counted(self):
        net = great_net(60, 60)
        for length in (1, 2, 30, 59, 60):
            self.assertEqual(count_in(net, "a" * length), sum(60 ** deep for deep in range(length - 1, 60)))
        self.assertEqual(count_in(net, ""), size_of(net))
        self.assertEqual((count_in(net, "a" * 61), count_in(net, "b"), count_in(net, "ab")), (0, 0, 0))
        turned = great_net(60, 60, "ab")
        self.assertEqual(count_in(turned, "ab" * 30), 60 ** 59)
        self.assertEqual(count_in(turned, "ba" * 30), 0)
        self.assertEqual(count_in(turned, "aba"), sum(60 ** deep for deep in range(3, 60, 2)))

    def test_all_letters_together_are_all_places(self):
        for net in great_nets():
            self.assertEqual(sum(met_of(net)), size_of(net))
            self.assertEqual(sum(count_in(net, letter) for letter in samples.ALL_LETTERS), size_of(net))
            self.assertEqual(sum(count_in(net, letter + net[-1][0]) for letter in samples.ALL_LETTERS) + sum(
                count_in(net, letter + other) for letter in samples.ALL_LETTERS for other in samples.ALL_LETTERS
                if other != net[-1][0]), size_of(net) - 1)

    def test_no_such_place(self):
        for net in [NET, (("q", ()),), great_net(60, 60)] + great_nets()[:3]:
            size = size_of(net)
            for place in (size, size + 1, 10 ** 119, 10 ** 120 - 1, -1, -size, True, False, None, "0",
                          fractions.Fraction(0)):
                self.assert_refused(NoPlace, word_in, net, place)
            for thing in samples.things():
                if not (type(thing) is int and 0 <= thing < size):
                    self.assert_refused(NoPlace, word_in, net, thing)
            self.assert_text(word_in(net, size - 1))

    def test_great_ones_beside_small_ones(self):
        # Knots that the last one doesn't lead to may be as great as they like.
        net = any_net(59, 1, 60, "ab") + (("c", ()),)
        self.assertEqual((size_of(net), met_of(net)), (1, [0] * 59 + [1]))
        self.assertEqual(unfolded_tree(net), ((-1,), "c"))


if __name__ == "__main__":
    unittest.main()
