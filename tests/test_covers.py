"""Promises [21] and [22]: contexts, covers, prices and floors; with [2], [3] and [4]."""

import fractions
import itertools
import unittest

from tests import naive, samples
from tests.asking import Asking
from upwords.covers import (
    beginnings_of, context_of, floors_of, floors_show, is_cover, least_cover, piece_of, price_of, rows_under)
from upwords.errors import NoCover
from upwords.written import read_tree

TREE = "a(b(a)c(bc))"


def some_trees():
    return samples.few_trees()[::5] + [
        (shape(60), labels) for shape in (samples.path, samples.star, samples.comb, samples.again)
        for labels in (samples.lettered(60, "ab", 5), samples.lettered(60, samples.ALL_LETTERS, 6))]


def banded_trees():
    """Beneath each of a few places one letter alone, so that to part them is cheap."""
    return [((-1,) + (0,) * one + (one,) * other, "a" + "b" * one + letters[:other])
            for one, other, letters in ((20, 20, "z" * 20), (30, 29, "z" * 28 + "y"), (9, 40, "y" + "c" * 39),
                                        (16, 16, "b" * 16), (25, 25, "a" * 25), (40, 4, "cdef"))] + [
        read_tree("a(" + "b" * 14 + "b(" + "c" * 14 + "c(" + "d" * 14 + "))" + ")"),
        read_tree("m(" + "a" * 12 + "a(" + "z" * 12 + ")b(" + "y" * 12 + ")c(" + "x" * 12 + "))")]


class Beginnings(Asking):

    def test_an_ordinary_tree(self):
        tree = read_tree(TREE)
        self.assertEqual([context_of(tree, place) for place in range(6)], [".", "a.", "ba.", "a.", "ca.", "ca."])
        self.assertEqual(beginnings_of(tree), ("", ".", "a", "a.", "b", "ba", "ba.", "c", "ca", "ca."))
        self.assertEqual([rows_under(tree, beginning) for beginning in beginnings_of(tree)], [
            (0, 6), (0, 1), (1, 3), (1, 3), (3, 4), (3, 4), (3, 4), (4, 6), (4, 6), (4, 6)])
        self.assertEqual([piece_of(tree, beginning) for beginning in ("", ".", "a.", "b", "ca.")], [
            "6 abc 140", "1 a", "2 bc 1", "1 a", "2 bc 1"])

    def test_one_place(self):
        tree = ((-1,), "q")
        self.assertEqual(context_of(tree, 0), ".")
        self.assertEqual(beginnings_of(tree), ("", "."))
        self.assertEqual((rows_under(tree, ""), rows_under(tree, ".")), ((0, 1), (0, 1)))
        self.assertEqual((piece_of(tree, ""), piece_of(tree, ".")), ("1 q", "1 q"))

    def test_a_word_above_and_one_that_goes_on(self):
        # The point stands ahead of all letters.
        tree = read_tree("a(a(a(b)c)d)")
        self.assertEqual(rows_under(tree, "a"), (1, 6))
        self.assertEqual(rows_under(tree, "a."), (1, 3))
        self.assertEqual(rows_under(tree, "aa."), (3, 5))
        self.assertEqual(rows_under(tree, "aaa."), (5, 6))

    def test_as_the_words_say(self):
        for tree in some_trees() + samples.small_trees(4):
            contexts = naive.contexts(tree)
            self.assertEqual(contexts, sorted(contexts))
            for row, place in enumerate(naive.kept(tree)):
                self.assertEqual(context_of(tree, place), contexts[row])
            beginnings = naive.beginnings(tree)
            self.assertEqual(beginnings_of(tree), beginnings)
            for beginning in beginnings[::1 + len(beginnings) // 40]:
                rows = [row for row, context in enumerate(contexts) if context.startswith(beginning)]
                first, behind = rows_under(tree, beginning)
                self.assertEqual(list(range(first, behind)), rows)
                self.assertEqual(piece_of(tree, beginning), naive.piece(naive.labels_under(tree, beginning)))

    def test_kinds(self):
        for tree in some_trees()[:8]:
            self.assert_text(context_of(tree, 0))
            self.assertIs(type(beginnings_of(tree)), tuple)
            for beginning in beginnings_of(tree)[:10]:
                self.assert_text(beginning)
                self.assert_wholes(rows_under(tree, beginning), tuple)
                self.assert_text(piece_of(tree, beginning))


class Pieces(Asking):

    def assert_piece(self, labels, piece):
        # Beneath a root whose letter is the first, all in one stretch.
        tree = (samples.star(len(labels)), labels)
        self.assertEqual(piece_of(tree, ""), piece)

    def test_those_of_the_promise(self):
        self.assert_piece("aab", "3 ab 1")
        self.assert_piece("aa", "2 a")

    def test_one_letter(self):
        self.assert_piece("q", "1 q")
        self.assert_piece("z" * 60, "60 z")

    def test_noughts_ahead(self):
        # Two times two four times, less 1, is 15: two figures.
        self.assert_piece("aaab", "4 ab 01")
        self.assert_piece("abbb", "4 ab 07")
        self.assert_piece("bbbb" + "a", "5 ab 30")
        self.assert_piece("aaaaaab", "7 ab 001")
        # Ten letters of which each is once: ten figures, all less 1 nines.
        self.assert_piece("abcdefghij", "10 abcdefghij 0123456789")
        self.assert_piece("jihgfedcba", "10 abcdefghij 9876543210")

    def test_the_first_row_s_figure_first(self):
        self.assert_piece("ab", "2 ab 1")
        self.assert_piece("ba", "2 ab 2")
        self.assert_piece("cab", "3 abc 19")
        self.assert_piece("xm", "2 mx 2")

    def test_sixty_of_all_letters(self):
        labels = (samples.ALL_LETTERS * 3)[:60]
        piece = naive.piece(labels)
        self.assertEqual(len(piece.split(" ")[2]), len(str(26 ** 60 - 1)))
        self.assert_piece(labels, piece)
        self.assert_piece("a" * 59 + "b", "60 ab " + "1".rjust(len(str(2 ** 60 - 1)), "0"))


class Covers(Asking):

    def test_an_ordinary_tree(self):
        tree = read_tree(TREE)
        for cover in (("",), (".", "a", "b", "c"), (".", "a.", "ba", "ca."), (".", "a", "b", "ca")):
            self.assertIs(is_cover(tree, cover), True, cover)
        self.assertEqual(price_of(tree, ("",)), len("6 abc 140"))
        self.assertEqual(price_of(tree, (".", "a", "b", "c")), len("1 a,2 bc 1,1 a,2 bc 1"))
        self.assertEqual(price_of(tree, (".", "a.", "ba.", "ca.")), len("1 a,2 bc 1,1 a,2 bc 1"))

    def test_what_is_none(self):
        tree = read_tree(TREE)
        for thing in ((), (".", "a", "b"), ("a", "b", "c"), (".", "a", "b", "c", "ca"), ("", "."), ("", "a"), ("", ""),
                      (".", "a", "a.", "b", "c"), ("a", ".", "b", "c"), (".", "c", "b", "a"), (".", "a", "b", "c", "d"),
                      (".", ".", "a", "b", "c"), (".", "a", "ab", "b", "c"), [""], [".", "a", "b", "c"], "", ".",
                      (None,), ("", None), (["."],), (("",),), (".", "a", "b", 1), (".", "a", "b", "c.", "ca"),
                      (".", "A", "b", "c"), (".", "a", "b", "c "), {"": 0}, {".": 1, "a": 1, "b": 1, "c": 1},
                      (b"",), (fractions.Fraction(1),), (".", "a", "b", "cb"), beginnings_of(tree), ("..",)):
            self.assertIs(is_cover(tree, thing), False, thing)
            self.assert_refused(NoCover, price_of, tree, thing)

    def test_anything(self):
        for tree in (((-1,), "a"), read_tree(TREE), (samples.path(60), "a" * 60)):
            for thing in samples.things():
                for tried in (thing, (thing,), ("", thing), (thing, ""), (".", "a", "b", "c", thing)):
                    self.assertIs(is_cover(tree, tried), False)
                    self.assert_refused(NoCover, price_of, tree, tried)

    def test_all_parts_of_the_beginnings(self):
        for tree in samples.small_trees(3) + [read_tree("a(b(c))"), read_tree("a(bc(d))")]:
            beginnings = naive.beginnings(tree)
            covers = naive.covers(tree)
            for many in range(min(len(beginnings), 5) + 1):
                for parts in itertools.combinations(beginnings, many):
                    self.assertIs(is_cover(tree, parts), naive.is_cover(tree, parts))
                    self.assertEqual(parts in covers, naive.is_cover(tree, parts))

    def test_told_covers_with_a_thing_more_fewer_or_otherwise(self):
        for tree in some_trees()[::2]:
            contexts = tuple(sorted(set(naive.contexts(tree))))
            for cover in (least_cover(tree)[1], contexts):
                self.assertIs(is_cover(tree, cover), True)
                self.assertEqual(price_of(tree, cover), naive.price(tree, cover))
                for thing in (cover[1:], cover[:-1], cover + cover[-1:], cover + ("~",), list(cover), cover + (None,),
                              ("",) + cover):
                    self.assertIs(is_cover(tree, thing), False)
                for other in (cover[-1] + ".", cover[-1] + "a", cover[-1][:-1]):
                    thing = cover[:-1] + (other,)
                    self.assertIs(is_cover(tree, thing), naive.is_cover(tree, thing))
                if len(cover) > 1:
                    self.assertIs(is_cover(tree, cover[::-1]), False)

    def test_prices(self):
        for tree in samples.small_trees(4)[::3]:
            for cover in naive.covers(tree):
                self.assertEqual(price_of(tree, cover), naive.price(tree, cover))
                self.assert_whole(price_of(tree, cover))


class Least(Asking):

    def test_an_ordinary_tree(self):
        self.assertEqual(least_cover(read_tree(TREE)), (9, ("",)))
        self.assertEqual(least_cover(((-1,), "q")), (3, ("",)))

    def test_against_all_covers_of_small_trees(self):
        for tree in samples.small_trees(5)[::2] + [
                read_tree("a(b(cc)b(cc)d(eeee))"), read_tree("a(bcd(eee)f(ggg))")]:
            priced = sorted((naive.price(tree, cover), cover) for cover in naive.covers(tree))
            self.assertEqual(least_cover(tree), priced[0])

    def test_parted_ones_of_several_the_first(self):
        for tree in banded_trees():
            covers = naive.covers(tree)
            least = min(naive.price(tree, cover) for cover in covers)
            as_cheap = [cover for cover in covers if naive.price(tree, cover) == least]
            self.assertGreater(len(as_cheap), 1)
            self.assertGreater(len(min(as_cheap)), 1)
            self.assertEqual(least_cover(tree), (least, min(as_cheap)))

    def test_great_trees(self):
        for tree in some_trees():
            price, cover = least_cover(tree)
            self.assertIs(is_cover(tree, cover), True)
            self.assertEqual(price_of(tree, cover), price)
            self.assertLessEqual(price, price_of(tree, ("",)))
            self.assertLessEqual(price, price_of(tree, tuple(sorted(set(naive.contexts(tree))))))

    def test_kinds(self):
        for tree in some_trees()[:8]:
            told = least_cover(tree)
            self.assertIs(type(told), tuple)
            self.assert_whole(told[0])
            self.assertIs(type(told[1]), tuple)
            for part in told[1]:
                self.assert_text(part)


def shows(tree, number, floors):
    """As the promise says it."""
    beginnings = naive.beginnings(tree)
    if type(floors) is not dict or set(floors) != set(beginnings):
        return False
    if any(type(floor) is not int for floor in floors.values()) or floors[""] < number:
        return False
    for beginning in beginnings:
        longer = [beginning + sign for sign in samples.ALL_LETTERS + "." if beginning + sign in floors]
        if floors[beginning] > len(naive.piece(naive.labels_under(tree, beginning))):
            return False
        if longer and floors[beginning] > sum(floors[other] for other in longer) + len(longer) - 1:
            return False
    return True


class Floors(Asking):

    def test_told_floors_show_the_least_price(self):
        for tree in some_trees() + samples.small_trees(4):
            price = least_cover(tree)[0]
            floors = floors_of(tree)
            for number in (price, price - 1, 0, -1, -10 ** 59):
                self.assertIs(floors_show(tree, number, floors), True)
            for number in (price + 1, price + 2, 10 ** 60 - 1):
                self.assertIs(floors_show(tree, number, floors), False)

    def test_told_floors_by_the_promise(self):
        for tree in some_trees()[::4] + samples.small_trees(4):
            self.assertTrue(shows(tree, least_cover(tree)[0], floors_of(tree)))

    def test_lesser_floors(self):
        tree = read_tree(TREE)
        floors = {beginning: -5 for beginning in beginnings_of(tree)}
        floors[""] = -20
        self.assertIs(floors_show(tree, -20, floors), True)
        self.assertIs(floors_show(tree, -19, floors), False)

    def test_no_floor_above_its_piece_or_its_parts(self):
        # One place: the piece 1 q has three signs.
        tree = ((-1,), "q")
        self.assertIs(floors_show(tree, 3, {"": 3, ".": 3}), True)
        self.assertIs(floors_show(tree, 2, {"": 3, ".": 3}), True)
        self.assertIs(floors_show(tree, 3, {"": 3, ".": 4}), False)
        self.assertIs(floors_show(tree, 3, {"": 4, ".": 4}), False)
        self.assertIs(floors_show(tree, 2, {"": 3, ".": 2}), False)
        self.assertIs(floors_show(tree, 2, {"": 2, ".": 2}), True)
        self.assertIs(floors_show(tree, 3, {"": 2, ".": 2}), False)
        self.assertIs(floors_show(tree, 3, {".": 3, "": 3}), True)

    def test_one_sign_for_each_part_but_the_first(self):
        # Beneath the root: 30 letters b, then of the last of these 29 letters z: the pieces 1 a, 30 b, 29 z.
        tree = (tuple([-1] + [0] * 30 + [30] * 29), "a" + "b" * 30 + "z" * 29)
        self.assertEqual(least_cover(tree)[0], len("1 a,30 b,29 z"))
        parts = [beginning for beginning in beginnings_of(tree) if len(beginning) == 1]
        self.assertEqual(parts, [".", "a", "b"])
        floors = floors_of(tree)
        self.assertEqual(floors[""], len("1 a,30 b,29 z"))
        floors[""] += 1
        self.assertIs(floors_show(tree, 0, floors), False)

    def test_a_number_more_or_fewer(self):
        for tree in some_trees()[::8] + samples.small_trees(4)[::5] + [read_tree(TREE)]:
            price = least_cover(tree)[0]
            floors = floors_of(tree)
            beginnings = list(floors)
            for beginning in beginnings[::1 + len(beginnings) // 6]:
                for more in (1, -1, 10 ** 59, -10 ** 59):
                    changed = dict(floors)
                    changed[beginning] += more
                    for number in (price, price - 1, price - 2):
                        self.assertIs(floors_show(tree, number, changed), shows(tree, number, changed))

    def test_a_key_more_or_fewer(self):
        tree = read_tree(TREE)
        price = least_cover(tree)[0]
        floors = floors_of(tree)
        for key in beginnings_of(tree):
            fewer = {other: floor for other, floor in floors.items() if other != key}
            self.assertIs(floors_show(tree, 0, fewer), False)
            for other in ("~", "ab", None, 0, ("",), key + "..", b""):
                self.assertIs(floors_show(tree, 0, {**fewer, other: floors[key]}), False)
        for key in ("~", "a..", None, 0, True, ("",), b"", "d", 1j):
            self.assertIs(floors_show(tree, price, {**floors, key: 0}), False)

    def test_no_whole_numbers(self):
        tree = read_tree(TREE)
        floors = floors_of(tree)
        for key in beginnings_of(tree):
            for other in samples.things():
                if not (type(other) is int):
                    self.assertIs(floors_show(tree, -10 ** 59, {**floors, key: other}), False)
        self.assertIs(floors_show(((-1,), "q"), 0, {"": True, ".": True}), False)
        self.assertIs(floors_show(((-1,), "q"), 0, {"": fractions.Fraction(1), ".": 3}), False)

    def test_anything(self):
        for tree in (((-1,), "q"), read_tree(TREE)):
            floors = floors_of(tree)
            for thing in samples.things() + [list(floors.items()), tuple(floors), [floors], (floors,), str(floors)]:
                self.assertIs(floors_show(tree, 0, thing), False)
                self.assertIs(floors_show(tree, -10 ** 59, thing), False)

    def test_kinds_and_own(self):
        for tree in some_trees()[:8]:
            floors = floors_of(tree)
            self.assertIs(type(floors), dict)
            self.assertEqual(sorted(floors), list(beginnings_of(tree)))
            self.assert_wholes(list(floors.values()), list)
            self.assert_own(floors_of, tree)
            kept = dict(floors)
            floors_show(tree, 0, floors)
            self.assertEqual(list(floors.items()), list(kept.items()))


if __name__ == "__main__":
    unittest.main()
