"""Promises [18] and [19]: a reader that walks and seeks by rows alone; with [2], [3] and [4]."""

import fractions
import unittest

from tests import naive, samples
from tests.asking import Asking
from upwords.errors import NoPlace
from upwords.reader import Reader
from upwords.rows import rows_of
from upwords.written import read_tree

STEPS = (1, 2, 3, 7, 13, 30, 59, 60)


def some_trees():
    return samples.few_trees()[::3] + samples.small_trees(4)


class Walked(Asking):

    def test_an_ordinary_tree(self):
        # The rows: abcabc, with those beneath a, ba and ca.
        rows = rows_of(read_tree("a(b(a)c(bc))"))
        for step in STEPS:
            reader = Reader(rows, step)
            told = [(reader.letter_at(row), reader.beneath_at(row), reader.above_at(row), reader.deep_at(row),
                     reader.word_at(row)) for row in range(6)]
            self.assertEqual(told, [
                ("a", (1, 3), None, 0, "a"), ("b", (3, 4), 0, 1, "ba"), ("c", (4, 6), 0, 1, "ca"),
                ("a", None, 1, 2, "aba"), ("b", None, 2, 2, "bca"), ("c", None, 2, 2, "cca")])

    def test_one_place(self):
        for step in STEPS:
            reader = Reader(("q", (True,), (True,)), step)
            self.assertEqual((reader.letter_at(0), reader.deep_at(0), reader.word_at(0)), ("q", 0, "q"))
            self.assertIsNone(reader.beneath_at(0))
            self.assertIsNone(reader.above_at(0))

    def test_as_the_tree_says(self):
        for tree in some_trees():
            order = naive.kept(tree)
            rows = naive.rows(tree)
            for step in STEPS:
                reader = Reader(rows, step)
                for row, place in enumerate(order):
                    word = naive.word_at(tree, place)
                    lower = [order.index(other) for other in naive.beneath(tree, place)]
                    self.assertEqual(reader.letter_at(row), tree[1][place])
                    self.assertEqual(reader.beneath_at(row), (lower[0], lower[-1] + 1) if lower else None)
                    self.assertEqual(reader.above_at(row), None if row == 0 else order.index(tree[0][place]))
                    if step in (1, 7, 60):
                        self.assertEqual(reader.word_at(row), word)
                        self.assertEqual(reader.deep_at(row), len(word) - 1)

    def test_every_step_tells_alike(self):
        for tree in ((samples.any_shape(60, 4), samples.lettered(60, "abc", 9)),
                     (samples.comb(47), samples.lettered(47, "ab", 3))):
            rows = rows_of(tree)
            word = naive.word_at(tree, 40)[:3]
            first = told_by(Reader(rows, 1), len(rows[0]), word)
            for step in range(65):
                self.assertEqual(told_by(Reader(rows, step), len(rows[0]), word), first)

    def test_counts_are_kept_at_every_step_rows_alone(self):
        rows = rows_of((samples.any_shape(60, 4), samples.lettered(60, "abc", 9)))
        for step in STEPS:
            reader = Reader(rows, step)
            marks = range(0, 61, step)
            self.assertEqual(reader.lasts_kept, [rows[1][:mark].count(True) for mark in marks])
            for letter in "abcd":
                self.assertEqual(
                    [counts.get(letter, 0) for counts in reader.inner_kept],
                    [sum(rows[0][row] == letter and not rows[2][row] for row in range(mark)) for mark in marks])

    def test_no_such_row(self):
        for tree in (((-1,), "a"), read_tree("a(b(a)c(bc))"), (samples.path(60), "a" * 60)):
            many = len(tree[1])
            for step in (1, 2, 60):
                reader = Reader(rows_of(tree), step)
                for asked in (reader.letter_at, reader.beneath_at, reader.above_at, reader.deep_at, reader.word_at):
                    for row in [many, many + 1, -many, fractions.Fraction(0), "a"] + samples.things():
                        self.assert_refused(NoPlace, asked, row)
                    asked(many - 1)

    def test_kinds(self):
        for tree in some_trees()[:20]:
            rows = rows_of(tree)
            reader = Reader(rows, 7)
            for row in range(len(rows[0])):
                self.assert_text(reader.letter_at(row))
                self.assert_text(reader.word_at(row))
                self.assert_whole(reader.deep_at(row))
                if not rows[2][row]:
                    self.assert_wholes(reader.beneath_at(row), tuple)
                if row > 0:
                    self.assert_whole(reader.above_at(row))


def told_by(reader, many, word):
    return [(reader.letter_at(row), reader.beneath_at(row), reader.above_at(row), reader.deep_at(row),
             reader.word_at(row)) for row in range(many)] + [reader.seek(word), reader.rows_read(word)]


def steps_of(tree, word):
    """The stretches, put as the promise says it, by the tree."""
    order = naive.kept(tree)
    behinds = {row: order.index(naive.beneath(tree, place)[-1]) + 1 for row, place in enumerate(order)
               if naive.beneath(tree, place)}
    letters = [tree[1][place] for place in order]
    steps = [(0, len(order))]
    for letter in word[:0:-1]:
        bearing = [row for row in range(*steps[-1]) if letters[row] == letter]
        lower = [row for row, place in enumerate(order) if row and order.index(tree[0][place]) in bearing]
        if lower == []:
            end = max([behinds[row] for row in behinds if letters[row] < letter
                       or letters[row] == letter and row < steps[-1][0]], default=1)
            return steps + [(end, end)]
        assert lower == list(range(lower[0], lower[-1] + 1))
        steps.append((lower[0], lower[-1] + 1))
    return steps


class Sought(Asking):

    def test_an_ordinary_tree(self):
        rows = rows_of(read_tree("a(b(a)c(bc))"))
        for step in STEPS:
            reader = Reader(rows, step)
            for word, many, steps, found in (
                    ("", 6, [(0, 6)], [0, 1, 2, 3, 4, 5]),
                    ("a", 2, [(0, 6)], [0, 3]),
                    ("q", 0, [(0, 6)], []),
                    ("ba", 1, [(0, 6), (1, 3)], [1]),
                    ("cca", 1, [(0, 6), (1, 3), (4, 6)], [5]),
                    ("bc", 1, [(0, 6), (4, 6)], [4]),
                    ("aaa", 0, [(0, 6), (1, 3), (3, 3)], []),
                    ("bcba", 0, [(0, 6), (1, 3), (3, 4), (6, 6)], []),
                    ("aq", 0, [(0, 6), (6, 6)], []),
                    ("qca", 0, [(0, 6), (1, 3), (4, 6)], []),
                    ("acacac", 0, [(0, 6), (4, 6), (3, 3)], [])):
                self.assertEqual(reader.seek(word), (many, steps), word)
                self.assertEqual(reader.rows_read(word), found, word)

    def test_an_empty_stretch_ahead_of_all_groups(self):
        reader = Reader(rows_of(read_tree("b(cd)")), 1)
        self.assertEqual(reader.seek("ba"), (0, [(0, 3), (1, 1)]))
        self.assertEqual(reader.seek("bb"), (0, [(0, 3), (1, 3)]))
        self.assertEqual(reader.seek("zzzd"), (0, [(0, 3), (3, 3)]))
        self.assertEqual(reader.seek("bbb"), (0, [(0, 3), (1, 3), (3, 3)]))

    def test_one_place(self):
        reader = Reader(("b", (True,), (True,)), 60)
        for word, told in (("", (1, [(0, 1)])), ("b", (1, [(0, 1)])), ("a", (0, [(0, 1)])),
                           ("bb", (0, [(0, 1), (1, 1)])), ("zzz", (0, [(0, 1), (1, 1)]))):
            self.assertEqual(reader.seek(word), told)

    def test_as_the_tree_says(self):
        texts = samples.all_texts("abc", 3)
        for tree in samples.few_trees()[::3]:
            self.ask_all(tree, samples.words_about(naive.words(tree))[::2], (1, 7, 60))
        for tree in samples.small_trees(4)[::2]:
            self.ask_all(tree, texts, (2,))

    def ask_all(self, tree, words, steps):
        order = naive.kept(tree)
        for word in words:
            places = naive.read_at(tree, word)
            stretches = steps_of(tree, word)
            for step in steps:
                reader = Reader(naive.rows(tree), step)
                self.assertEqual(reader.seek(word), (len(places), stretches))
                self.assertEqual(reader.rows_read(word), sorted(order.index(place) for place in places))

    def test_a_whole_word_of_sixty_letters(self):
        tree = (samples.path(60), samples.lettered(60, "ab", 8))
        for step in STEPS:
            reader = Reader(rows_of(tree), step)
            word = tree[1][::-1]
            many, steps = reader.seek(word)
            self.assertEqual((many, len(steps)), (1, 60))
            self.assertEqual(reader.rows_read(word), [naive.kept(tree).index(59)])
            self.assertEqual(reader.seek(word + "b")[0], 0)

    def test_kinds_and_own(self):
        reader = Reader(rows_of(read_tree("a(b(a)c(bc))")), 2)
        for word in ("", "a", "ba", "bca", "zz", "aaaa"):
            many, steps = reader.seek(word)
            self.assertIs(type(reader.seek(word)), tuple)
            self.assert_whole(many)
            self.assertIs(type(steps), list)
            for stretch in steps:
                self.assert_wholes(stretch, tuple)
            self.assert_wholes(reader.rows_read(word), list)
            self.assert_own(reader.seek, word)
            self.assert_own(reader.rows_read, word)

    def test_what_is_refused_changes_nothing(self):
        rows = rows_of(read_tree("a(b(a)c(bc))"))
        reader = Reader(rows, 2)
        once = told_by(reader, 6, "bca")
        for thing in samples.things():
            self.assert_refused(NoPlace, reader.above_at, thing)
        self.assertEqual(told_by(reader, 6, "bca"), once)
        self.assertEqual(rows, rows_of(read_tree("a(b(a)c(bc))")))

    def test_readers_beside_one_another(self):
        one = Reader(rows_of(read_tree("a(b(a)c(bc))")), 2)
        other = Reader(rows_of(read_tree("z(y)")), 2)
        self.assertEqual((one.word_at(5), other.word_at(1)), ("cca", "yz"))
        self.assertEqual((one.letter_at(0), other.letter_at(0)), ("a", "z"))


if __name__ == "__main__":
    unittest.main()
