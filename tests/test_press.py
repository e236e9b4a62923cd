"""Promise [23]: trees pressed by a cover, and read back to their rows; with [2], [3] and [4]."""

import itertools
import unittest

from tests import naive, samples
from tests.asking import Asking
from upwords.covers import least_cover
from upwords.errors import NoCover, NoText
from upwords.press import press_by, pressed_text, rows_unpressed
from upwords.written import read_tree

SIGNS = " ,/0123ab"


def some_trees():
    return samples.few_trees()[::4] + [
        (shape(60), labels) for shape in (samples.path, samples.star, samples.comb, samples.again)
        for labels in (samples.lettered(60, "ab", 5), samples.lettered(60, samples.ALL_LETTERS, 6))]


def covers_by_length(tree):
    """Each context cut to so many signs."""
    contexts = naive.contexts(tree)
    return {tuple(sorted({context[:length] for context in contexts})) for length in (0, 1, 2, 3, 5, 60, 61)}


def turns(truths):
    groups = [(truth, len(list(group))) for truth, group in itertools.groupby(truths)]
    return ",".join((["0"] if groups[0][0] is False else []) + [str(many) for truth, many in groups])


def pressed(tree, cover):
    rows = naive.rows(tree)
    pieces = ",".join(naive.piece(naive.labels_under(tree, part)) for part in cover)
    return pieces + "/" + turns(rows[1]) + "/" + turns(rows[2])


class Pressed(Asking):

    def test_an_ordinary_tree(self):
        tree = read_tree("a(bc(d))")
        self.assertEqual(press_by(tree, ("",)), "4 abcd 027/1,1,2/0,1,1,1,1")
        self.assertEqual(press_by(tree, (".", "a.", "c")), "1 a,2 bc 1,1 d/1,1,2/0,1,1,1,1")
        self.assertEqual(pressed_text(tree), "4 abcd 027/1,1,2/0,1,1,1,1")

    def test_one_place(self):
        tree = ((-1,), "q")
        for cover in (("",), (".",)):
            self.assertEqual(press_by(tree, cover), "1 q/1/1")
        self.assertEqual(pressed_text(tree), "1 q/1/1")
        self.assertEqual(rows_unpressed("1 q/1/1"), ("q", (True,), (True,)))

    def test_true_first_and_false_first(self):
        # Leaves begin with False but in a tree of one place; lasts begin with True.
        self.assertEqual(press_by(read_tree("a(a(a))"), ("",)), "3 a/3/0,2,1")
        self.assertEqual(press_by(read_tree("a(aaa)"), ("",)), "4 a/1,2,1/0,1,3")

    def test_a_star_and_a_path_of_sixty(self):
        self.assertEqual(pressed_text((samples.star(60), "a" * 60)), "60 a/1,58,1/0,1,59")
        self.assertEqual(pressed_text((samples.path(60), "z" * 60)), "60 z/60/0,59,1")

    def test_by_several_covers_as_the_promise_says(self):
        for tree in samples.small_trees(4):
            for cover in naive.covers(tree):
                self.assertEqual(press_by(tree, cover), pressed(tree, cover))
        for tree in some_trees():
            for cover in covers_by_length(tree):
                self.assertEqual(press_by(tree, cover), pressed(tree, cover))

    def test_pressed_alone_is_by_the_least_cover(self):
        for tree in samples.small_trees(4) + some_trees():
            price, cover = least_cover(tree)
            text = pressed_text(tree)
            self.assertEqual(text, pressed(tree, cover))
            self.assertEqual(len(text.split("/")[0]), price)
        tree = ((-1,) + (0,) * 30 + (30,) * 29, "a" + "b" * 30 + "z" * 29)
        self.assertEqual(pressed_text(tree), "1 a,30 b,29 z/1,29,1,28,1/0,1,29,1,29")

    def test_what_is_no_cover(self):
        for tree in (((-1,), "q"), read_tree("a(bc(d))"), (samples.path(60), "a" * 60)):
            for thing in ("", ".", "~", [""], ("", "."), ("", ""), ("~",)):
                self.assert_refused(NoCover, press_by, tree, thing)
            for thing in samples.things():
                for tried in (thing, (thing,), ("", thing)):
                    self.assert_refused(NoCover, press_by, tree, tried)
        tree = read_tree("a(bc(d))")
        for thing in ((".", "a"), (".", "c", "a"), ("a", "c"), (".", "a", "b", "c"), [".", "a", "c"],
                      (".", "a", "a.", "c"), (".", "a", "c", "ca")):
            self.assert_refused(NoCover, press_by, tree, thing)

    def test_kinds(self):
        self.assert_text(pressed_text(read_tree("a(bc(d))")))
        self.assert_text(press_by(read_tree("a(bc(d))"), ("",)))
        labels, lasts, leaves = rows_unpressed("4 abcd 027/1,1,2/0,1,1,1,1")
        self.assert_text(labels)
        for truths in (lasts, leaves):
            self.assertIs(type(truths), tuple)
            self.assertEqual({type(truth) for truth in truths}, {bool})
        self.assertIs(type(rows_unpressed("1 q/1/1")), tuple)


class Unpressed(Asking):

    def test_back_by_whatever_cover(self):
        for tree in samples.small_trees(4):
            for cover in naive.covers(tree):
                self.assertEqual(rows_unpressed(pressed(tree, cover)), naive.rows(tree))
        for tree in some_trees():
            for cover in covers_by_length(tree):
                self.assertEqual(rows_unpressed(press_by(tree, cover)), naive.rows(tree))
            self.assertEqual(rows_unpressed(pressed_text(tree)), naive.rows(tree))

    def test_one_sign_otherwise_more_or_fewer(self):
        known = {pressed(tree, cover): naive.rows(tree) for tree in samples.small_trees(4)
                 for cover in naive.covers(tree)}
        tried = {}
        for text in [text for text in known if len(known[text][0]) < 4]:
            for at in range(len(text) + 1):
                tried[text[:at] + text[at + 1:]] = True
                for sign in SIGNS:
                    tried[text[:at] + sign + text[at:]] = True
                    tried[text[:at] + sign + text[at + 1:]] = True
        self.assertGreater(len(tried), 3000)
        for text in tried:
            if text in known:
                self.assertEqual(rows_unpressed(text), known[text])
            else:
                self.assert_refused(NoText, rows_unpressed, text)

    def test_signs_that_no_pressed_text_has(self):
        for text in ("1 q/1/1", "4 abcd 027/1,1,2/0,1,1,1,1"):
            for at in range(len(text) + 1):
                for sign in "AZ-+._~\n\t'\"()[]":
                    self.assert_refused(NoText, rows_unpressed, text[:at] + sign + text[at:])
                    self.assert_refused(NoText, rows_unpressed, text[:at] + sign + text[at + 1:])

    def test_cut_off_and_twice(self):
        for tree in some_trees()[::3] + [read_tree("a(bc(d))")]:
            text = pressed_text(tree)
            for at in range(0, len(text), 1 + len(text) // 30):
                self.assert_refused(NoText, rows_unpressed, text[:at])
                self.assert_refused(NoText, rows_unpressed, text[at + 1:])
            for thing in (text + text, text + "/" + text, text + "," + text, text + "\n" + text, text + "\n",
                          " " + text, text + " ", text + "/", "/" + text, text + ",", "," + text):
                self.assert_refused(NoText, rows_unpressed, thing)

    def test_noughts_ahead(self):
        for text in ("01 q/1/1", "1 q/01/1", "1 q/1/01", "1 q/1/00", "2 ab 1/02/0,1,1", "2 ab 01/2/0,1,1",
                     "2 ab 1/2/00,1,1", "2 ab 1/2/0,01,1", "2 ab /2/0,1,1", "2 ab  1/2/0,1,1",
                     "4 abcd 27/1,1,2/0,1,1,1,1", "4 abcd 0027/1,1,2/0,1,1,1,1", "002 a/2/0,1,1"):
            self.assert_refused(NoText, rows_unpressed, text)

    def test_numbers_that_don_t_fit_the_letters(self):
        self.assertEqual(rows_unpressed("3 ab 1/1,1,1/0,1,2")[0], "aab")
        for piece in ("3 ab 8", "3 ab 9", "3 ab 0", "3 ab 7", "3 ab 01", "3 ab", "3 a 0", "3 a 1", "3 ba 1", "3 aa 1",
                      "3 abc 1", "3 abc 01", "3  1", "3 ab -1", "3 ab b", "3 ab 1 1", "3", "3 ", " ab 1", "0 a",
                      "3 aB 1", "3 a1 1", "", "0", "3 ab 1,", "3 ab 1,0 a", "3 ab 1,0 a 0", "3 ab 1,1 ",
                      "3 ab " + "1" * 3000, "3 ab " + "1" * 5000, "9" * 3000 + " ab 1", "60 ab 1", "99 a", "1 a,1 ,2 ab 1"):
            self.assert_refused(NoText, rows_unpressed, piece + "/1,1,1/0,1,2")
        # Three letters of which each is there: as great as the figures allow, but no number of them.
        self.assert_refused(NoText, rows_unpressed, "3 abc 27/1,1,1/0,1,2")
        self.assert_refused(NoText, rows_unpressed, "3 abc 99/1,1,1/0,1,2")
        self.assertEqual(rows_unpressed("3 abc 05/1,1,1/0,1,2")[0], "abc")

    def test_turns_that_are_none(self):
        for lasts, leaves in (("1,1,1,0", "0,1,2"), ("1,1,1", "0,1,2,0"), ("1,0,2", "0,1,2"), ("1,1", "0,1,2"),
                              ("1,1,1", "0,1,1,0,1"), ("1,1,1", "1,2"), ("0,1,2", "0,1,2"), ("", "0,1,2"),
                              ("1,1,1", ""), ("1,,1,1", "0,1,2"), ("3", "3"), ("1,1,2", "0,1,3"), ("a", "0,1,2"),
                              ("1,1,1", "0,1,2,"), ("1,1,-1", "0,1,2"), ("1,1,1,", "0,1,2"), ("1,1,1", "0, 1,2"),
                              ("1,1,1", "0,1," + "9" * 3000), ("1,1,1", "0,1," + "2," * 900 + "1")):
            self.assert_refused(NoText, rows_unpressed, "3 a/" + lasts + "/" + leaves)
        self.assertEqual(rows_unpressed("3 a/1,1,1/0,1,2"), ("aaa", (True, False, True), (False, True, True)))

    def test_no_tree_s_rows(self):
        # Row 2 would lie beneath itself; then too many groups; then none.
        for text in ("3 ab 5/3/0,1,1,1", "3 ab 5/3/0,1,2", "3 ab 5/1,2/0,1,2", "1 a/1/0,1", "61 a/1,59,1/0,1,60",
                     "61 a/61/0,60,1"):
            self.assert_refused(NoText, rows_unpressed, text)

    def test_every_parting_of_the_rows(self):
        # Only where each piece's rows are all those of some beginning is it let by.
        for tree in samples.small_trees(5)[::7] + [read_tree("a(b(a)c(bc))"), read_tree("a(a(a(b)c)d)")]:
            labels, lasts, leaves = naive.rows(tree)
            known = {pressed(tree, cover) for cover in naive.covers(tree)}
            for ends in itertools.product((True, False), repeat=len(labels) - 1):
                cuts = [0] + [row + 1 for row, end in enumerate(ends) if end] + [len(labels)]
                pieces = [naive.piece(labels[first:behind]) for first, behind in zip(cuts, cuts[1:])]
                text = ",".join(pieces) + "/" + turns(lasts) + "/" + turns(leaves)
                if text in known:
                    self.assertEqual(rows_unpressed(text), (labels, lasts, leaves))
                else:
                    self.assert_refused(NoText, rows_unpressed, text)

    def test_pieces_in_another_order(self):
        for tree in some_trees()[::3]:
            cover = tuple(sorted(set(naive.contexts(tree))))
            known = [pressed(tree, part) for part in covers_by_length(tree)]
            pieces, lasts, leaves = pressed(tree, cover).split("/")
            for other in (pieces.split(",")[::-1], pieces.split(",")[1:] + pieces.split(",")[:1]):
                text = "/".join([",".join(other), lasts, leaves])
                if text not in known:
                    try:
                        rows = rows_unpressed(text)
                    except NoText:
                        continue
                    # Then it is some other tree's, by a cover of that.
                    self.assertNotEqual(rows, naive.rows(tree))
        self.assert_refused(NoText, rows_unpressed, "2 bc 1,1 a,1 d/1,1,2/0,1,1,1,1")
        self.assert_refused(NoText, rows_unpressed, "1 d,2 bc 1,1 a/1,1,2/0,1,1,1,1")

    def test_no_text_at_all(self):
        for thing in samples.things():
            self.assert_refused(NoText, rows_unpressed, thing)
        for thing in ("", "/", "//", "///", "a", "1 q", "1 q/1", "1 q//1", "/1/1", " / / ", ",/,/,", "\n", ["1 q/1/1"],
                      ("1 q/1/1",), b"1 q/1/1", {"1 q/1/1": 1}, "/" * 4000, "1 a," * 999, "1 q/1/" + "1," * 1900 + "1"):
            self.assert_refused(NoText, rows_unpressed, thing)


if __name__ == "__main__":
    unittest.main()
