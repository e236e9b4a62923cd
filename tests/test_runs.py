"""Promise [20]: runs; with [2] and [3]."""

import fractions
import unittest

from tests import samples
from tests.asking import Asking
from upwords.errors import NoPlace, NoRuns
from upwords.runs import count_ahead, letter_in, place_by, runs_of, text_by

GREAT = 10 ** 60 - 1
GREAT_RUNS = (("b", GREAT), ("a", 10 ** 59), ("b", 1), ("z", 10 ** 59 + 7), ("b", GREAT))


def some_texts():
    return samples.all_texts("abz", 4) + [
        "a" * 4000, "ab" * 2000, samples.lettered(4000, "aaaaab", 3), samples.lettered(400, samples.ALL_LETTERS, 4),
        samples.ALL_LETTERS]


class Runs(Asking):

    def test_ordinary_texts(self):
        self.assertEqual(runs_of(""), ())
        self.assertEqual(runs_of("a"), (("a", 1),))
        self.assertEqual(runs_of("aabccca"), (("a", 2), ("b", 1), ("c", 3), ("a", 1)))
        self.assertEqual(text_by((("a", 2), ("b", 1), ("c", 3), ("a", 1))), "aabccca")
        self.assertEqual(text_by(()), "")

    def test_there_and_back(self):
        for text in some_texts():
            runs = runs_of(text)
            self.assertEqual("".join(letter * many for letter, many in runs), text)
            self.assertTrue(all(one[0] != other[0] for one, other in zip(runs, runs[1:])))
            self.assertTrue(all(many >= 1 for letter, many in runs))
            self.assertEqual(text_by(runs), text)

    def test_kinds(self):
        for text in some_texts():
            runs = runs_of(text)
            self.assertIs(type(runs), tuple)
            for run in runs:
                self.assertIs(type(run), tuple)
                self.assert_text(run[0])
                self.assert_whole(run[1])
            self.assert_text(text_by(runs))

    def test_four_thousand_letters_together(self):
        self.assertEqual(text_by((("a", 4000),)), "a" * 4000)
        self.assertEqual(text_by((("a", 3999), ("b", 1))), "a" * 3999 + "b")
        for runs in ((("a", 4001),), (("a", 4000), ("b", 1)), (("a", 2000), ("b", 2000), ("a", 1)), GREAT_RUNS,
                     (("a", GREAT),), runs_of("ab" * 2000 + "a")):
            self.assert_refused(NoRuns, text_by, runs)

    def test_no_runs(self):
        for runs in ((("a", 0),), (("a", -1),), (("a", 1), ("a", 1)), (("a", 1), ("b", 1), ("b", 2)), (("a", True),),
                     (("a", False),), (("A", 1),), (("ab", 1),), (("", 1),), (("1", 1),), ((1, "a"),), (("a", 1, 1),),
                     (("a",),), (["a", 1],), [("a", 1)], ("a", 1), "a", "aabb", (("a", "1"),), (("a", None),),
                     ((None, 1),), ((("a",), 1),), (("a", 1), None), (("a", 1), ()), {"a": 1}, (("a", [1]),),
                     (("a", fractions.Fraction(1)),), (("a", 2), ("b", 0)), ((" ", 1),), (("a", -GREAT),)):
            self.assert_refused(NoRuns, text_by, runs)
        for thing in samples.things():
            if thing != ():
                self.assert_refused(NoRuns, text_by, thing)
            self.assert_refused(NoRuns, text_by, (thing,))
            self.assert_refused(NoRuns, text_by, ((thing, 1),))
            if thing not in (10 ** 59, 10 ** 60 - 1):
                self.assert_refused(NoRuns, text_by, (("a", thing),))

    def test_letters_at_places(self):
        for text in some_texts():
            runs = runs_of(text)
            for place in range(0, len(text), 1 + len(text) // 40):
                self.assertEqual(letter_in(runs, place), text[place])
            self.assert_refused(NoPlace, letter_in, runs, len(text))
            self.assert_refused(NoPlace, letter_in, runs, -1)

    def test_no_such_place(self):
        for runs in ((), (("a", 1),), (("a", 2), ("b", 3))):
            length = sum(many for letter, many in runs)
            for place in [length, length + 1, "a", -length - 1, fractions.Fraction(0)] + samples.things():
                self.assert_refused(NoPlace, letter_in, runs, place)
        self.assert_refused(NoPlace, letter_in, GREAT_RUNS, 2 * GREAT + 2 * 10 ** 59 + 8)
        self.assert_refused(NoPlace, letter_in, GREAT_RUNS, True)

    def test_counts_and_places(self):
        for text in some_texts():
            runs = runs_of(text)
            for letter in "abmz":
                for place in range(0, len(text) + 1, 1 + len(text) // 40):
                    self.assertEqual(count_ahead(runs, letter, place), text[:place].count(letter))
                self.assertEqual(count_ahead(runs, letter, len(text)), text.count(letter))
                places = [place for place, own in enumerate(text) if own == letter]
                for so in range(0, len(places), 1 + len(places) // 40):
                    self.assertEqual(place_by(runs, letter, so), places[so])
                for so in (len(places), len(places) + 1, GREAT, -1):
                    self.assertIsNone(place_by(runs, letter, so))

    def test_runs_too_great_to_be_written_out(self):
        b_a = GREAT
        a_b = GREAT + 10 ** 59
        length = 2 * GREAT + 2 * 10 ** 59 + 8
        for place, letter in ((0, "b"), (b_a - 1, "b"), (b_a, "a"), (a_b - 1, "a"), (a_b, "b"), (a_b + 1, "z"),
                              (length - GREAT - 1, "z"), (length - GREAT, "b"), (length - 1, "b")):
            self.assertEqual(letter_in(GREAT_RUNS, place), letter)
        for letter, place, many in (
                ("b", 0, 0), ("b", b_a, GREAT), ("b", a_b, GREAT), ("b", a_b + 1, GREAT + 1), ("a", b_a, 0),
                ("a", b_a + 5, 5), ("a", length, 10 ** 59), ("z", length, 10 ** 59 + 7), ("z", a_b + 2, 1),
                ("b", length, 2 * GREAT + 1), ("b", length - 1, 2 * GREAT), ("q", length, 0)):
            self.assertEqual(count_ahead(GREAT_RUNS, letter, place), many)
        for letter, so, place in (
                ("b", 0, 0), ("b", GREAT - 1, GREAT - 1), ("b", GREAT, a_b), ("b", GREAT + 1, length - GREAT),
                ("b", 2 * GREAT, length - 1), ("b", 2 * GREAT + 1, None), ("a", 0, b_a),
                ("a", 10 ** 59 - 1, a_b - 1), ("a", 10 ** 59, None), ("z", 10 ** 59 + 6, length - GREAT - 1),
                ("z", 10 ** 59 + 7, None), ("q", 0, None)):
            self.assertEqual(place_by(GREAT_RUNS, letter, so), place)

    def test_kinds_of_numbers(self):
        for runs in ((("a", 2), ("b", 3)), GREAT_RUNS):
            self.assert_text(letter_in(runs, 0))
            self.assert_whole(count_ahead(runs, "a", 0))
            self.assert_whole(count_ahead(runs, "b", 1))
            self.assert_whole(place_by(runs, "b", 0))
        self.assert_whole(count_ahead((), "a", 0))
        self.assertIsNone(place_by((), "a", 0))


if __name__ == "__main__":
    unittest.main()
