"""Promises [30] and [31]: what fits a pattern in a tree, and marks; with [2], [3] and [4]."""

import fractions
import functools
import itertools
import unittest
import unittest.mock

from tests import naive, samples
from tests.asking import Asking
from tests.pattern_samples import PATTERNS, any_pattern, no_patterns, patterns_about
from upwords.errors import NoNumber, NoPattern, NoWord
from upwords.fitting import found_at, many_by, marks_of, marks_show, number_by, whole_at, word_by
from upwords.written import read_tree

# The words a, ba, ca, bca, ba, bba, abba.
TREE = read_tree("a(bc(b)b(b(a)))")


@functools.cache
def asked():
    """Pairs of a tree and a pattern."""
    pairs = [(tree, pattern) for tree in samples.few_trees() for pattern in patterns_about(naive.words(tree))[::6]]
    pairs += [(tree, any_pattern(seed, 5 + seed % 36, "ab")) for seed, tree in enumerate(samples.few_trees())]
    small = samples.small_trees(4)
    pairs += [(tree, pattern) for k, tree in enumerate(small) for pattern in PATTERNS[k % 5:30:5]]
    return pairs


@functools.cache
def fitting(tree, pattern):
    return naive.fitting(tree, pattern)


class Places(Asking):

    def test_an_ordinary_tree(self):
        for pattern, whole, found in (
                ("ba", [1, 4], [(1, 2), (4, 2)]), (".a", [1, 2, 4], [(1, 2), (2, 2), (4, 2)]),
                ("b.*a", [1, 3, 4, 5], [(1, 2), (3, 3), (4, 2), (5, 3)]),
                ("b", [], [(1, 1), (3, 1), (4, 1), (5, 1)]), ("z", [], []), ("", [], [(place, 0) for place in range(7)]),
                ("a*", [0], [(place, 0) for place in range(7)]), ("[ac]a*", [0, 2], [(0, 1), (2, 1), (6, 1)]),
                (".*", list(range(7)), [(place, 0) for place in range(7)]), (".*bb.*", [5, 6], [(5, 2), (6, 3)])):
            self.assertEqual(whole_at(TREE, pattern), whole, pattern)
            self.assertEqual(found_at(TREE, pattern), found, pattern)

    def test_as_words_fit(self):
        for tree, pattern in asked():
            words = naive.words(tree)
            self.assertEqual(whole_at(tree, pattern), [
                place for place, word in enumerate(words) if naive.fits(pattern, word)], (tree, pattern))
            least = []
            for place, word in enumerate(words):
                lengths = [length for length in range(len(word) + 1) if naive.fits(pattern, word[:length])]
                least.extend((place, length) for length in lengths[:1])
            self.assertEqual(found_at(tree, pattern), least, (tree, pattern))

    def test_one_place(self):
        tree = ((-1,), "q")
        for pattern, whole, found in (("q", [0], [(0, 1)]), (".", [0], [(0, 1)]), ("q*", [0], [(0, 0)]), ("", [], [(0, 0)]),
                                      ("a", [], []), ("qq", [], []), ("a*q", [0], [(0, 1)]), ("a*", [], [(0, 0)])):
            self.assertEqual((whole_at(tree, pattern), found_at(tree, pattern)), (whole, found), pattern)

    def test_forty_items_on_a_path(self):
        tree = (samples.path(60), "a" * 60)
        self.assertEqual(whole_at(tree, "." * 40), [39])
        self.assertEqual(found_at(tree, "a" * 40), [(place, 40) for place in range(39, 60)])
        self.assertEqual(whole_at(tree, "a*" * 20), list(range(60)))
        self.assertEqual(found_at(tree, "a*" * 19 + "b"), [])
        self.assertEqual(whole_at(tree, "a" * 38 + "a*"), list(range(37, 60)))

    def test_kinds_and_own(self):
        for pattern in ("b.*a", "", "z"):
            self.assert_wholes(whole_at(TREE, pattern), list)
            self.assertIs(type(found_at(TREE, pattern)), list)
            for pair in found_at(TREE, pattern):
                self.assert_wholes(pair, tuple)
            self.assert_own(whole_at, TREE, pattern)
            self.assert_own(found_at, TREE, pattern)


class Words(Asking):

    def test_an_ordinary_tree(self):
        # Unlike words: a, ab, abb, abba, b, ba, bb, bba, bc, bca, c, ca.
        for pattern, words in (("b.*", ["b", "ba", "bb", "bba", "bc", "bca"]), (".*a", ["a", "abba", "ba", "bba", "bca", "ca"]),
                               ("", []), ("z", []), ("a*", ["a"]), ("[bc]*", ["b", "bb", "bc", "c"]), ("abb", ["abb"])):
            self.assertEqual(many_by(TREE, pattern), len(words), pattern)
            self.assertEqual([word_by(TREE, pattern, k) for k in range(len(words))], words)
            self.assertEqual([number_by(TREE, pattern, word) for word in words], list(range(len(words))))

    def test_as_words_fit(self):
        for tree, pattern in asked():
            words = fitting(tree, pattern)
            self.assertEqual(many_by(tree, pattern), len(words), (tree, pattern))
            for k in {0, 1, len(words) // 2, len(words) - 2, len(words) - 1} & set(range(len(words))):
                self.assertEqual(word_by(tree, pattern, k), words[k])
                self.assertEqual(number_by(tree, pattern, words[k]), k)
            self.assert_refused(NoNumber, word_by, tree, pattern, len(words))
            self.assert_refused(NoNumber, word_by, tree, pattern, -1)

    def test_all_of_some(self):
        for tree, pattern in asked()[::40]:
            words = fitting(tree, pattern)
            self.assertEqual([word_by(tree, pattern, k) for k in range(len(words))], words)
            self.assertEqual([number_by(tree, pattern, word) for word in words], list(range(len(words))))

    def test_what_all_words_fit(self):
        for tree in samples.few_trees():
            self.assertEqual(many_by(tree, ".*"), len(naive.unlike(tree)))
            self.assertEqual(many_by(tree, "..*"), len(naive.unlike(tree)))
            self.assertEqual(many_by(tree, ""), 0)

    def test_numbers_that_there_are_not(self):
        for pattern, many in ((".*", 12), ("b.*", 6), ("a", 1), ("", 0), ("z", 0)):
            for number in (many, many + 1, 10 ** 59, -1, -2, -many - 1, -10 ** 59, True, False, None, "0", "", "a", (0,), [0],
                           fractions.Fraction(0)):
                self.assert_refused(NoNumber, word_by, TREE, pattern, number)
            for thing in samples.things():
                self.assert_refused(NoNumber, word_by, TREE, pattern, thing)

    def test_words_that_are_none_of_these(self):
        for pattern, word in (
                ("b.*", ""), ("", ""), (".*", ""), ("a*", ""), ("z", "z"), (".*", "z"), (".*", "aba"), ("a*", "aa"), ("b.*", "ca"),
                ("b.*", "a"), ("b", "ba"), ("ba", "b"), ("", "a"), (".*", "abbaa"), (".*", "A"), (".*", "b a"), (".*", "a" * 61)):
            self.assert_refused(NoWord, number_by, TREE, pattern, word)
        for pattern in (".*", "b.*", "", "z"):
            for thing in samples.things() + [0, 1, ("a",), ["a"], [], b"ba", {"a": 0}, unittest.mock.ANY]:
                self.assert_refused(NoWord, number_by, TREE, pattern, thing)

    def test_every_other_word_near(self):
        for tree, pattern in asked()[::25]:
            words = fitting(tree, pattern)
            for word in samples.words_about(naive.words(tree))[::3]:
                if word in words:
                    self.assertEqual(number_by(tree, pattern, word), words.index(word))
                else:
                    self.assert_refused(NoWord, number_by, tree, pattern, word)

    def test_kinds(self):
        self.assert_whole(many_by(TREE, "b.*"))
        self.assert_whole(many_by(TREE, "z"))
        self.assert_text(word_by(TREE, "b.*", 0))
        self.assert_whole(number_by(TREE, "b.*", "b"))


class NoPatterns(Asking):

    def test_from_every_function(self):
        for thing in no_patterns():
            for told in (whole_at, found_at, many_by, marks_of):
                self.assert_refused(NoPattern, told, TREE, thing)
            # Ahead of the other refusals.
            for number in (0, -1, None, True, "a"):
                self.assert_refused(NoPattern, word_by, TREE, thing, number)
            for word in ("a", "", "z", None, 0):
                self.assert_refused(NoPattern, number_by, TREE, thing, word)
            for given in (None, (), ((0,),) * 7, [], "a"):
                self.assert_refused(NoPattern, marks_show, TREE, thing, given)


class Marks(Asking):

    def test_an_ordinary_tree(self):
        # Behind c of c(b) stands what b came to; at the root also what came of c, b and b.
        self.assertEqual(marks_of(read_tree("a(bc(b))"), "bca"), ((0, 1, 2), (0,), (0, 1), (0,)))
        self.assertEqual(marks_of(read_tree("a(bc(b))"), "b*c"), ((0, 1, 2), (0, 1), (0, 1), (0, 1)))
        self.assertEqual(marks_of(read_tree("a(b)"), "a"), ((0,), (0,)))
        self.assertEqual(marks_of(((-1,), "q"), ""), ((0,),))
        self.assertEqual(marks_of(((-1,), "q"), "a*b*"), ((0, 1, 2),))
        self.assertEqual(marks_of(((-1,), "q"), "a*bc*"), ((0, 1),))

    def test_a_star_s_letter_leads_to_the_same_state(self):
        self.assertEqual(marks_of((samples.path(4), "qbbb"), "ab*c"), ((0,),) * 4)
        self.assertEqual(marks_of((samples.path(4), "qbba"), "ab*c"), ((0, 1, 2), (0, 1, 2), (0, 1, 2), (0,)))

    def test_the_least_ones_by_what_is_wanted(self):
        for tree, pattern in asked()[::2]:
            self.assertEqual(marks_of(tree, pattern), naive.marks(tree, pattern), (tree, pattern))

    def test_no_marks_lack_a_state_of_the_least_ones(self):
        for tree in samples.small_trees(3)[::2]:
            for pattern in ("ab", "a*b", "ab*", "b.", "a*", "[ab]b"):
                parts = naive.items(pattern)
                chosen = [states for many in range(len(parts) + 2)
                          for states in itertools.combinations(range(len(parts) + 1), many)]
                least = marks_of(tree, pattern)
                found = False
                for marks in itertools.product(chosen, repeat=len(tree[1])):
                    if not naive.wanted_marks(tree, parts, marks):
                        found = found or marks == least
                        self.assertTrue(all(set(few) <= set(states) for few, states in zip(least, marks)))
                    self.assertIs(marks_show(tree, pattern, marks), naive.marks_show(tree, pattern, marks))
                self.assertTrue(found)

    def test_forty_items(self):
        tree = (samples.path(60), "a" * 60)
        self.assertEqual(marks_of(tree, "a" * 40), tuple(tuple(range(min(60 - place, 41))) for place in range(60)))
        self.assertEqual(marks_of(tree, "a*" * 20), (tuple(range(21)),) * 60)
        self.assertIs(marks_show(tree, "a" * 39 + "b", marks_of(tree, "a" * 39 + "b")), True)

    def test_kinds(self):
        for pattern in ("bca", "", "z", "a*"):
            told = marks_of(TREE, pattern)
            self.assertIs(type(told), tuple)
            self.assertEqual(len(told), 7)
            for states in told:
                self.assert_wholes(states, tuple)


class Showing(Asking):

    def test_the_least_ones_show_it_just_where_no_word_fits(self):
        shown = 0
        for tree, pattern in asked():
            none = fitting(tree, pattern) == [] and not naive.fits(pattern, "")
            self.assertIs(marks_show(tree, pattern, marks_of(tree, pattern)), none, (tree, pattern))
            shown += none
        self.assertGreater(shown, 100)

    def test_all_done_behind_the_root(self):
        for text, pattern in (("a", "a"), ("a(b)", "ba"), ("a(b)", "b.c*"), ("a", "ab*"), ("a(b)", "c*a")):
            tree = read_tree(text)
            marks = marks_of(tree, pattern)
            self.assertNotIn(len(naive.items(pattern)), [state for states in marks for state in states])
            self.assertIs(marks_show(tree, pattern, marks), False)

    def test_the_word_of_no_letters_fits(self):
        for pattern in ("", "z*", "z*y*"):
            self.assertIs(marks_show(TREE, pattern, marks_of(TREE, pattern)), False)
            self.assertIs(marks_show(TREE, pattern, ((0,),) * 7), False)

    def test_a_state_more(self):
        # From state 2 one goes on by c alone, which no place bears.
        tree = read_tree("a(b(b))")
        least = ((0, 1), (0, 1), (0,))
        self.assertEqual(marks_of(tree, "bzc"), least)
        self.assertIs(marks_show(tree, "bzc", least), True)
        for marks in (((0, 1, 2), (0, 1), (0,)), ((0, 1), (0, 1, 2), (0,)), ((0, 1), (0, 1), (0, 2)),
                      ((0, 1), (0, 1), (0, 1)), ((0, 1, 2), (0, 1, 2), (0, 1, 2))):
            self.assertIs(marks_show(tree, "bzc", marks), True, marks)
        # All done, or one comes to it.
        for marks in (((0, 1, 2, 3), (0, 1), (0,)), ((0, 1), (0, 1, 3), (0,)), ((0, 1), (0, 1), (0, 3))):
            self.assertIs(marks_show(tree, "bzc", marks), False, marks)
        self.assertIs(marks_show(tree, "bza", least), True)
        self.assertIs(marks_show(tree, "bza", ((0, 1, 2), (0, 1), (0,))), False)
        self.assertIs(marks_show(tree, "bzb", ((0, 1), (0, 1, 2), (0,))), False)
        self.assertIs(marks_show(tree, "bzb", ((0, 1, 2), (0, 1), (0,))), True)

    def test_a_state_otherwise(self):
        tree = read_tree("a(bc(b))")
        least = marks_of(tree, "b*cb")
        self.assertEqual(least, ((0, 1, 2), (0, 1), (0, 1), (0, 1)))
        self.assertIs(marks_show(tree, "b*cb", least), True)
        for place, states in enumerate(least):
            for other in [states[:k] + states[k + 1:] for k in range(len(states))] + [
                    states + states[-1:], states[:1] + states, states[::-1], states + (0,), (), states + (3,), states + (4,),
                    states + (-1,), (-1,) + states, list(states), set(states), dict.fromkeys(states), None, 0, str(states),
                    (states,), (False,) + states[1:], (0, True) + states[2:], states + (None,), ("0",) + states[1:],
                    (0, fractions.Fraction(1)) + states[2:], states + (10 ** 59,), (None,) + states, ((),) + states]:
                given = least[:place] + (other,) + least[place + 1:]
                self.assertIs(marks_show(tree, "b*cb", given), False, given)

    def test_more_or_fewer_places_and_other_tuples(self):
        tree = read_tree("a(bc(b))")
        least = marks_of(tree, "b*cb")
        for given in (least[:-1], least[1:], least + ((0, 1),), least + ((),), (), list(least), [list(part) for part in least],
                      tuple(list(part) for part in least), (least,), least[::-1], dict(enumerate(least)), str(least), None,
                      least * 2, least + least * 99, (0, 1, 2, 3), ((0,),) * 4, ((0, 1),) * 4):
            self.assertIs(marks_show(tree, "b*cb", given), False, given)
        self.assertIs(marks_show(tree, "b*cb", ((0, 1, 2),) * 4), False)

    def test_every_altered_one_as_the_promise_says(self):
        for tree, pattern in asked()[::30]:
            states_all = len(naive.items(pattern)) + 1
            least = marks_of(tree, pattern)
            for k in range(0, len(least), 1 + len(least) // 6):
                for state in range(0, states_all, 1 + states_all // 5):
                    other = tuple(sorted(set(least[k]) ^ {state}))
                    given = least[:k] + (other,) + least[k + 1:]
                    told = marks_show(tree, pattern, given)
                    self.assertIs(told, naive.marks_show(tree, pattern, given))
                    # Whoever wrote them: what is let by is so.
                    self.assertFalse(told and (fitting(tree, pattern) or naive.fits(pattern, "")))

    def test_anything(self):
        for thing in samples.things():
            for given in (thing, (thing,) * 7, ((thing,),) * 7, ((0, thing),) * 7, ((0,),) * 6 + (thing,)):
                self.assertIs(marks_show(TREE, "bcz", given), False)
            self.assertIs(marks_show(((-1,), "a"), "b", (thing,)), thing == (0,))
        self.assertIs(marks_show(((-1,), "a"), "b", ((0,),)), True)

    def test_what_is_handed_in_stays(self):
        given = [[0], [1]]
        marks_show(TREE, "bca", given)
        self.assertEqual(given, [[0], [1]])


if __name__ == "__main__":
    unittest.main()
