"""Promises [15], [16] and [17]: the kept order, rows, and what lies beneath in them; with [2], [3] and [4]."""

import fractions
import itertools
import unittest

from tests import naive, samples
from tests.asking import Asking
from upwords.errors import NoRows
from upwords.rows import group_numbers, groups_of, is_rows, kept_order, rows_of, tree_of
from upwords.written import read_tree

# The words above: none, a, ba, a, a, ca, at the places 0 to 5.
TREE = "a(b(a)c(bc))"


class Rows(Asking):

    def test_an_ordinary_tree(self):
        # The ranks of a, ba and ca rise, so the places beneath them stand so.
        tree = read_tree(TREE)
        self.assertEqual(kept_order(tree), [0, 1, 3, 2, 4, 5])
        self.assertEqual(rows_of(tree), (
            "abcabc", (True, False, True, True, False, True), (False, False, False, True, True, True)))

    def test_by_the_rank_of_the_place_above_not_by_its_number(self):
        tree = read_tree("b(c(xy)a(zw))")
        self.assertEqual(kept_order(tree), [0, 5, 6, 1, 4, 2, 3])
        self.assertEqual(rows_of(tree)[0], "bzwcaxy")

    def test_alike_words_above_by_their_numbers(self):
        tree = read_tree("a(b(x)b(y)b(z))")
        self.assertEqual(kept_order(tree), [0, 1, 3, 5, 2, 4, 6])

    def test_the_root_first_though_its_word_is_great(self):
        tree = read_tree("z(a(b))")
        self.assertEqual(kept_order(tree), [0, 2, 1])
        self.assertEqual(rows_of(tree), ("zba", (True, True, True), (False, True, False)))

    def test_one_place(self):
        self.assertEqual(kept_order(((-1,), "q")), [0])
        self.assertEqual(rows_of(((-1,), "q")), ("q", (True,), (True,)))

    def test_as_the_words_say(self):
        for tree in samples.many_trees() + samples.small_trees(5):
            self.assertEqual(kept_order(tree), naive.kept(tree))
            self.assertEqual(rows_of(tree), naive.rows(tree))

    def test_kinds_and_own(self):
        for tree in samples.few_trees():
            self.assert_wholes(kept_order(tree), list)
            told = rows_of(tree)
            self.assertIs(type(told), tuple)
            self.assertEqual([type(part) for part in told], [str, tuple, tuple])
            self.assertEqual({type(truth) for truth in told[1] + told[2]}, {bool})
            self.assert_own(kept_order, tree)


class Back(Asking):

    def test_every_tree_comes_back(self):
        for tree in samples.many_trees() + samples.small_trees(5):
            told = rows_of(tree)
            self.assertIs(is_rows(told), True)
            self.assertEqual(tree_of(told), tree)

    def test_the_tree_s_kinds(self):
        ups, labels = tree_of(rows_of(read_tree(TREE)))
        self.assert_wholes(ups, tuple)
        self.assert_text(labels)
        self.assertIs(type(tree_of(rows_of(read_tree(TREE)))), tuple)

    def test_all_that_look_like_small_rows(self):
        trees = {naive.rows(tree): tree for tree in samples.small_trees(4)}
        for many in (1, 2, 3, 4):
            truths = list(itertools.product((True, False), repeat=many))
            for labels in [text for text in samples.all_texts("ab", many) if len(text) == many]:
                for lasts in truths:
                    for leaves in truths:
                        thing = (labels, lasts, leaves)
                        self.assertIs(is_rows(thing), thing in trees, thing)
                        if thing in trees:
                            self.assertEqual(tree_of(thing), trees[thing])
                        else:
                            self.assert_refused(NoRows, tree_of, thing)

    def test_rows_round_in_a_ring(self):
        # Row 2 would lie beneath itself.
        self.assert_no_rows(("bab", (True, True, True), (False, True, False)))
        self.assertIs(is_rows(("bba", (True, True, True), (False, False, True))), True)

    def test_one_truth_otherwise(self):
        for tree in samples.few_trees():
            labels, lasts, leaves = rows_of(tree)
            for row in range(len(labels)):
                self.assert_no_rows((labels, turned(lasts, row), leaves))
                self.assert_no_rows((labels, lasts, turned(leaves, row)))

    def test_two_truths_or_a_letter_otherwise(self):
        told_no = 0
        for tree in samples.few_trees()[::4]:
            labels, lasts, leaves = rows_of(tree)
            for row in range(len(labels) - 1):
                for thing in ((labels, turned(turned(lasts, row), row + 1), leaves),
                              (labels, lasts, turned(turned(leaves, row), row + 1)),
                              (labels[:row] + "m" + labels[row + 1:], lasts, leaves)):
                    if is_rows(thing):
                        self.assertEqual(naive.rows(tree_of(thing)), thing)
                    else:
                        told_no += 1
                        self.assert_refused(NoRows, tree_of, thing)
        self.assertGreater(told_no, 100)

    def test_a_letter_otherwise_that_no_tree_has(self):
        # With the first letter z, row 1 would lie beneath itself.
        self.assertEqual(rows_of(read_tree("m(n(a))")), ("mna", (True, True, True), (False, False, True)))
        self.assert_no_rows(("zna", (True, True, True), (False, False, True)))

    def test_letters_that_are_none(self):
        for labels in ("A", "1", " ", "\n", "", ".", "~", None, 1, ["a"], ("a",), b"a"):
            self.assert_no_rows((labels, (True,), (True,)))
        self.assert_no_rows((["a"], (True,), (True,)))

    def test_parts_of_other_kinds(self):
        labels, lasts, leaves = rows_of(read_tree(TREE))
        whole = (labels, lasts, leaves)
        for thing in (list(whole), (labels, list(lasts), leaves), (labels, lasts, list(leaves)),
                      (list(labels), lasts, leaves), (tuple(labels), lasts, leaves), whole + (leaves,), whole + ((),),
                      whole[:2], whole[:1], (), (whole,), (labels, leaves), (lasts, leaves, labels),
                      (labels + "a", lasts, leaves), (labels[1:], lasts, leaves), (labels, lasts + (True,), leaves),
                      (labels, lasts, leaves + (True,)), (labels, lasts[:-1], leaves), (labels, lasts, leaves[:-1]),
                      (labels, (), ()), ("", (), ()), (None, lasts, leaves), (labels, None, leaves),
                      (labels, lasts, None), {0: labels, 1: lasts, 2: leaves}, (labels, str(lasts), leaves)):
            self.assert_no_rows(thing)

    def test_numbers_in_a_truth_s_place(self):
        labels, lasts, leaves = rows_of(read_tree(TREE))
        for row in range(len(labels)):
            for other in (int(lasts[row]), None, "", [], fractions.Fraction(lasts[row])):
                self.assert_no_rows((labels, lasts[:row] + (other,) + lasts[row + 1:], leaves))
            for other in (int(leaves[row]), None, "", [], fractions.Fraction(leaves[row])):
                self.assert_no_rows((labels, lasts, leaves[:row] + (other,) + leaves[row + 1:]))
        self.assert_no_rows(("a", (1,), (1,)))

    def test_more_than_sixty(self):
        for many in (61, 62, 400):
            self.assert_no_rows(("a" * many, (True,) + (False,) * (many - 2) + (True,),
                                 (False,) + (True,) * (many - 1)))
            self.assert_no_rows(("a" * many, (True,) * many, (False,) * (many - 1) + (True,)))

    def test_anything(self):
        for thing in samples.things():
            self.assert_no_rows(thing)
            self.assert_no_rows((thing, thing, thing))
            self.assert_no_rows(("a", thing, (True,)))
            self.assert_no_rows(("a", (True,), thing))
            self.assert_no_rows(("a", (True,), (thing,)) if thing is not True else (True,))

    def assert_no_rows(self, thing):
        self.assertIs(is_rows(thing), False, repr(thing)[:200])
        self.assert_refused(NoRows, tree_of, thing)


def turned(truths, row):
    return truths[:row] + (not truths[row],) + truths[row + 1:]


class Groups(Asking):

    def test_an_ordinary_tree(self):
        rows = rows_of(read_tree(TREE))
        self.assertEqual(groups_of(rows), [(1, 3), (3, 4), (4, 6)])
        self.assertEqual(group_numbers(rows), [0, 1, 2, None, None, None])

    def test_row_0_by_its_letter(self):
        # Rows zba: a's group stands ahead of that of the root.
        rows = rows_of(read_tree("z(a(b))"))
        self.assertEqual(groups_of(rows), [(1, 2), (2, 3)])
        self.assertEqual(group_numbers(rows), [1, None, 0])

    def test_row_0_first_of_its_letter(self):
        rows = rows_of(read_tree("b(a(c)b(d)c(e))"))
        self.assertEqual(rows[0], "bcabcde")
        self.assertEqual(groups_of(rows), [(1, 2), (2, 5), (5, 6), (6, 7)])
        self.assertEqual(group_numbers(rows), [1, None, 0, 2, 3, None, None])

    def test_one_place(self):
        rows = ("a", (True,), (True,))
        self.assertEqual((groups_of(rows), group_numbers(rows)), ([], [None]))

    def test_as_the_tree_says(self):
        for tree in samples.many_trees() + samples.small_trees(5):
            rows = rows_of(tree)
            order = naive.kept(tree)
            groups = groups_of(rows)
            numbers = group_numbers(rows)
            self.assertEqual(len(groups), rows[2].count(False))
            for row, place in enumerate(order):
                lower = naive.beneath(tree, place)
                if lower == []:
                    self.assertIsNone(numbers[row])
                else:
                    first, behind = groups[numbers[row]]
                    self.assertEqual([order[k] for k in range(first, behind)], lower)
            self.assertEqual(groups, sorted(groups))

    def test_kinds_and_own(self):
        for tree in samples.few_trees():
            rows = rows_of(tree)
            self.assertIs(type(groups_of(rows)), list)
            for stretch in groups_of(rows):
                self.assert_wholes(stretch, tuple)
            self.assert_wholes([number for number in group_numbers(rows) if number is not None], list)
            self.assert_own(groups_of, rows)
            self.assert_own(group_numbers, rows)


if __name__ == "__main__":
    unittest.main()
