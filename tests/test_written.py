"""Promise [6]: trees as texts, and the refusal of what is none; with [2] and [3]."""

import unittest

from tests import samples
from tests.asking import Asking
from upwords.errors import NoTree
from upwords.written import read_tree, show_tree


def text_by_words(tree, place=0):
    inner = "".join(text_by_words(tree, k) for k, up in enumerate(tree[0]) if up == place)
    return tree[1][place] + ("(" + inner + ")" if inner else "")


class ShowTree(Asking):

    def test_ordinary_trees(self):
        for tree, text in ((((-1, 0, 0, 2), "abcd"), "a(bc(d))"), (((-1,), "z"), "z"),
                           (((-1, 0, 1, 2), "abcd"), "a(b(c(d)))"), (((-1, 0, 0, 0), "abcd"), "a(bcd)"),
                           (((-1, 0, 1, 2, 0), "abcda"), "a(b(c(d))a)")):
            self.assertEqual(show_tree(tree), text)
            self.assertEqual(read_tree(text), tree)

    def test_every_tree_as_the_words_say_and_back(self):
        for tree in samples.many_trees() + samples.small_trees(5):
            text = show_tree(tree)
            self.assert_text(text)
            self.assertEqual(text, text_by_words(tree))
            self.assertEqual(read_tree(text), tree)

    def test_sixty_places(self):
        tall = "a(" * 59 + "a" + ")" * 59
        wide = "a(" + "b" * 59 + ")"
        self.assertEqual(show_tree((samples.path(60), "a" * 60)), tall)
        self.assertEqual(show_tree((samples.star(60), "a" + "b" * 59)), wide)
        self.assertEqual(read_tree(tall), (samples.path(60), "a" * 60))
        self.assertEqual(read_tree(wide), (samples.star(60), "a" + "b" * 59))

    def test_kinds_of_what_is_read(self):
        for text in ("a", "a(bc(d))", "a(" + "b" * 59 + ")"):
            tree = read_tree(text)
            self.assertIs(type(tree), tuple)
            self.assertEqual(len(tree), 2)
            self.assert_wholes(tree[0], tuple)
            self.assert_text(tree[1])


class Refused(Asking):

    def assert_at(self, thing, at):
        error = self.assert_refused(NoTree, read_tree, thing)
        self.assertEqual(error.at, at, repr(thing)[:60])
        self.assert_whole(error.at)

    def test_what_is_no_text(self):
        for thing in samples.things():
            if not isinstance(thing, str):
                self.assert_at(thing, -1)
        self.assert_at(["a"], -1)
        self.assert_at(("a",), -1)
        self.assert_at(((-1,), "a"), -1)
        self.assert_at(0, -1)

    def test_the_text_of_no_signs(self):
        self.assert_at("", 0)

    def test_every_text_cut_off(self):
        for tree in samples.many_trees():
            text = text_by_words(tree)
            if len(text) > 1:
                self.assert_at(text[:-1], len(text) - 1)
        for text in ("a(bc(d))", "a(" * 59 + "a" + ")" * 59, "a(" + "b(c)" * 29 + "b)"):
            for length in range(len(text)):
                if length != 1:
                    self.assert_at(text[:length], length)

    def test_a_bracket_left(self):
        self.assert_at("a(", 2)
        self.assert_at("a(b", 3)
        self.assert_at("a(b(c)", 6)
        self.assert_at("a(b(", 4)

    def test_empty_brackets(self):
        self.assert_at("a()", 2)
        self.assert_at("a(b()c)", 4)
        self.assert_at("()", 0)

    def test_brackets_that_can_not_be_there(self):
        self.assert_at("(a)", 0)
        self.assert_at(")", 0)
        self.assert_at("a)", 1)
        self.assert_at("a(b))", 4)
        self.assert_at("a(b)(c)", 4)
        self.assert_at("a(b(c)(d))", 6)
        self.assert_at("a((b))", 2)

    def test_more_behind_the_root(self):
        self.assert_at("ab", 1)
        self.assert_at("a(b)c", 4)
        self.assert_at("aa", 1)
        self.assert_at("a(bc(d)) ", 8)
        self.assert_at("a\n", 1)

    def test_signs_that_are_no_small_letters(self):
        for sign in ("A", "Z", " ", "\n", "0", "[", "]", "{", "`", ",", "\u00e9", "\u0430", "\uff41", "~"):
            self.assert_at(sign, 0)
            self.assert_at("a" + sign, 1)
            self.assert_at("a(" + sign + ")", 2)
            self.assert_at("a(b" + sign + ")", 3)
            self.assert_at("a(b)" + sign, 4)

    def test_a_sixty_first_letter(self):
        self.assert_at("a(" + "b" * 60 + ")", 61)
        self.assert_at("a(" * 59 + "aa" + ")" * 59, 119)
        self.assert_at("a(" + "b(c)" * 29 + "bc)", 119)
        self.assert_at("a(" + "b" * 57 + "c(d)e)", 63)
        self.assert_at("a(" + "b" * 3998, 61)

    def test_a_bracket_behind_the_sixtieth(self):
        self.assert_at("a(" * 60, 119)
        self.assert_at("a(" * 60 + "a" + ")" * 60, 119)
        self.assert_at("a(" + "b" * 59 + "(c))", 61)
        self.assert_at("a(" + "b" * 59 + "(", 61)
        self.assert_at("a(" + "b" * 59, 61)
        self.assert_at("a(" + "b" * 58 + "(", 61)
        self.assert_at("a(" + "b" * 58 + "(c", 62)
        self.assert_at("a(" + "b" * 58 + "(c)d)", 63)

    def test_every_short_text(self):
        whole = {text_by_words((ups, "a" * len(ups))) for many in range(1, 8) for ups in samples.all_shapes(many)}
        begun = {text[:length] for text in whole for length in range(len(text) + 1)}
        for text in samples.all_texts("a()", 7):
            if text in whole:
                self.assertEqual(show_tree(read_tree(text)), text)
            else:
                self.assert_at(text, max(k for k in range(len(text) + 1) if text[:k] in begun))


if __name__ == "__main__":
    unittest.main()
