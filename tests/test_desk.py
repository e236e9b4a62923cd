"""Promise [38]: a desk that answers lines by texts; with [2], [3] and [4]."""

import itertools
import re
import unittest

from tests import naive, samples
from tests.asking import Asking
from tests.net_samples import great_net, great_nets, some_nets, unfolded
from tests.pattern_samples import NO_PATTERNS, patterns_about
from upwords.desk import Desk
from upwords.errors import (
    NoChange, NoLeaf, NoLetter, NoLine, NoNumber, NoPattern, NoPlace, NoText, NoTree, TooMany, UpError)
from upwords.folds import folded_net
from upwords.keeper import Keeper
from upwords.nettexts import show_net
from upwords.press import pressed_text
from upwords.written import read_tree, show_tree

NUMBER = "(0|[1-9][0-9]{0,3})"
LINES = re.compile(
    f"(tree|net) .*|put {NUMBER} {NUMBER} [^ ]+|take {NUMBER}|back|show|fold|press|order|many"
    f"|read (-|[a-z]{{1,60}})|fit [^ ]+|nth {NUMBER}", re.DOTALL)
ASKING = ("show", "fold", "press", "order", "read -", "fit -", "many", "nth 0")
NO_LINES = (
    "", " ", "  ", "-", "a", "0", "tree", "net", "Tree a", "TREE a", " tree a", "trees a", "tre a", "tree\na", "tree,a", "net\na",
    " net a", "nets a", "put", "put ", "put 0", "put 0 0", "put 0 0 ", "put 0 0 a ", " put 0 0 a", "put  0 0 a", "put 0  0 a",
    "put 0 0  a", "put 0 0 a b", "put a 0 a", "put 0 a a", "put 00 0 a", "put 0 00 a", "put 01 0 a", "put 0 01 a", "put 10000 0 a",
    "put 0 10000 a", "put -1 0 a", "put 0 -1 a", "put - 0 a", "put 0 - a", "put +1 0 a", "put 0.0 0 a", "put 0,0 a", "put a 0 0",
    "put 0 0a", "put 0 0\na", "put 0\n 0 a", "take", "take ", "take  0", "take a", "take -1", "take -", "take 00", "take 01",
    "take 12345", "take 0 0", "take 0 ", " take 0", "take 0\n", "take 0x1", "take 1_0", "Take 1", "back ", " back", "back 0",
    "back back", "Back", "back\n", "backs", "bac", "show ", " show", "show show", "show a", "show\n", "shows", "fold ", " fold",
    "fold a", "folds", "press ", " press", "press a", "order ", " order", "order 0", "order -", "orders", "order\n", "read", "read ",
    "read  a", "read a ", "read a b", "read A", "read aB", "read 0", "read --", "read -a", "read a-", "read .", "read a.", "read a\n",
    "read \n", "read " + "a" * 61, "read " + "a" * 4000, "read - -", "read - ", "reads a", "fit", "fit ", "fit  a", "fit a ",
    "fit a b", "fit - -", " fit a", "fits a", "many ", " many", "many 0", "many -", "many\n", "nth", "nth ", "nth a", "nth -",
    "nth -1", "nth 00", "nth 01", "nth 10000", "nth 0 0", "nth 0 ", "nth  0", "nth\n0", "Nth 0", "tree_now", "put0 0 a", "ok",
    "quit", "help", "read" + " " * 60, "~" * 4000)


def blanks(numbers):
    return " ".join(str(number) for number in numbers) or "-"


def desk_with(text):
    desk = Desk()
    desk.answer("tree " + text)
    return desk


class Answers(Asking):

    def assert_answers(self, desk, *pairs):
        for line, told in pairs:
            self.assertEqual(desk.answer(line), told, line)
            self.assert_text(told)

    def test_an_ordinary_tree(self):
        self.assert_answers(
            Desk(), ("tree a(bc(d))", "ok"), ("show", "a(bc(d))"), ("order", "0 1 2 3"), ("many", "8"), ("nth 0", "a"),
            ("nth 7", "dca"), ("read -", "0 1 2 3"), ("read d", "3"), ("read ca", "2"), ("read q", "-"), ("read ad", "-"),
            ("fit -", "-"), ("fit .a", "1 2"), ("fit .*", "0 1 2 3"), ("fit d.*", "3"), ("fit [bd]", "-"), ("fit a*", "0"),
            ("fold", "d c,0 b a,2,1"), ("press", "4 abcd 027/1,1,2/0,1,1,1,1"), ("put 0 1 b", "2 2 2"), ("show", "a(bbc(d))"),
            ("read b", "1 2"), ("fit b.", "1 2"), ("order", "0 1 2 3 4"), ("many", "8"), ("fold", "d c,0 b a,2,2,1"),
            ("put 3 1 a", "5 1 5"), ("order", "0 5 1 2 3 4"), ("many", "10"), ("nth 1", "ac"), ("take 1", "1 2 1"),
            ("show", "a(bc(da))"), ("back", "1 2 1"), ("show", "a(bbc(da))"), ("back", "5 1 5"), ("back", "2 2 2"),
            ("show", "a(bc(d))"))

    def test_an_ordinary_net(self):
        self.assert_answers(
            Desk(), ("net a b,0,0 c,1,0", "ok"), ("show", "c(b(aa)a)"), ("order", "2 3 4 1 0"), ("fold", "a b,0,0 c,1,0"),
            ("read a", "2 3 4"), ("many", "7"), ("net q", "ok"), ("show", "q"), ("order", "0"), ("fold", "q"), ("many", "1"),
            ("press", "1 q/1/1"), ("read q", "0"), ("net a b q,1 c", "ok"), ("show", "c"))

    def test_trees(self):
        for tree in samples.few_trees():
            desk = desk_with(show_tree(tree))
            self.assert_tells(desk, tree)

    def test_nets(self):
        for net in some_nets()[::3]:
            ups, labels, knots = unfolded(net)
            desk = Desk()
            if len(ups) <= 60:
                self.assertEqual(desk.answer("net " + show_net(net)), "ok")
                self.assert_tells(desk, (ups, labels))

    def assert_tells(self, desk, tree):
        unlike = naive.unlike(tree)
        self.assert_answers(
            desk, ("show", show_tree(tree)), ("fold", show_net(folded_net(tree))), ("press", pressed_text(tree)),
            ("order", blanks(naive.order(tree))), ("many", str(len(unlike))), ("read -", blanks(range(len(tree[1])))),
            ("nth 0", unlike[0]), (f"nth {len(unlike) - 1}", unlike[-1]), (f"nth {len(unlike) // 2}", unlike[len(unlike) // 2]))
        words = naive.words(tree)
        for word in samples.words_about(words)[1::9]:
            if 1 <= len(word) <= 60:
                self.assertEqual(desk.answer("read " + word), blanks(naive.read_at(tree, word)))
        for pattern in patterns_about(words)[1::5]:
            told = [place for place, word in enumerate(words) if naive.fits(pattern, word)]
            self.assertEqual(desk.answer("fit " + pattern), blanks(told))
        self.assert_refused(NoNumber, desk.answer, f"nth {len(unlike)}")
        self.assert_refused(NoNumber, desk.answer, "nth 9999")

    def test_deeds_as_a_keeper_tells_them(self):
        for seed, tree in enumerate(samples.few_trees()[::3]):
            numbers = samples.drawn(seed)
            desk, keeper = desk_with(show_tree(tree)), Keeper(tree)
            for k in range(12):
                place, number = next(numbers) % 61, next(numbers) % 4
                line, done, given = (
                    (f"put {place} {number} b", keeper.put, (place, number, "b")), (f"take {place}", keeper.take, (place,)),
                    ("back", keeper.back, ()))[next(numbers) % 3]
                try:
                    told = blanks(done(*given))
                except UpError as refusal:
                    self.assert_refused(type(refusal), desk.answer, line)
                else:
                    self.assertEqual(desk.answer(line), told)
                self.assertEqual(desk.answer("show"), show_tree(keeper.tree_now()))
                self.assertEqual(desk.answer("order"), blanks(keeper.order_now()))
                self.assertEqual(desk.answer("many"), str(keeper.many_now()))

    def test_minus_for_none(self):
        desk = desk_with("q(r)")
        for line in ("read a", "read qr", "read " + "q" * 60, "fit -", "fit a", "fit ...", "fit z*"):
            self.assertEqual(desk.answer(line), "-")
        self.assertEqual(desk.answer("read -"), "0 1")

    def test_words_and_patterns_like_the_lines_own(self):
        desk = desk_with("r(e(d(r(o))))")
        self.assert_answers(desk, ("read order", "4"), ("fit order", "4"), ("read orde", "4"), ("fit orde", "-"))
        for word in ("put", "take", "back", "show", "fold", "press", "read", "fit", "many", "nth", "tree", "net"):
            self.assert_answers(desk, ("read " + word, "-"), ("fit " + word, "-"))
            self.assert_refused(NoLetter, desk.answer, "put 0 0 " + word)
        self.assert_answers(desk_with("y(n(a(m)))"), ("read many", "3"), ("fit many", "3"), ("many", "10"))
        self.assert_answers(desk_with("w(o(h(s)))"), ("read show", "3"), ("fit show", "3"), ("show", "w(o(h(s)))"))

    def test_words_of_sixty_letters(self):
        desk = desk_with("a(" * 59 + "a" + ")" * 59)
        self.assertEqual(desk.answer("read " + "a" * 60), "59")
        self.assertEqual(desk.answer("read " + "b" * 60), "-")
        self.assert_refused(NoLine, desk.answer, "read " + "a" * 61)
        self.assertEqual(desk.answer("order"), blanks(range(60)))

    def test_numbers_of_four_figures(self):
        # Unlike words enough for numbers of four figures.
        labels = samples.lettered(60, samples.ALL_LETTERS, 6)
        desk = desk_with(show_tree((samples.path(60), labels)))
        unlike = naive.unlike((samples.path(60), labels))
        for k in (9, 10, 99, 100, 999, 1000, 1700):
            self.assertEqual(desk.answer(f"nth {k}"), unlike[k])


class NoLines(Asking):

    def assert_line(self, desk, line):
        """Refused by its words, or not, as the promise says; what else is refused is so by the stages."""
        if LINES.fullmatch(line):
            try:
                desk.answer(line)
            except UpError as refusal:
                self.assertNotIsInstance(refusal, NoLine, line)
        else:
            self.assert_refused(NoLine, desk.answer, line)

    def test_what_is_none_by_its_words(self):
        desk = desk_with("a(bc(d))")
        desk.answer("put 0 0 z")
        for line in NO_LINES:
            self.assertIsNone(LINES.fullmatch(line), line)
            self.assert_refused(NoLine, desk.answer, line)
            self.assert_refused(NoLine, Desk().answer, line)
        self.assertEqual(desk.answer("show"), "a(zbc(d))")
        self.assertEqual(desk.answer("back"), "1 4 1")

    def test_every_line_of_a_few_words(self):
        words = ("put", "take", "back", "show", "fold", "press", "order", "read", "fit", "many", "nth", "tree", "net", "0", "1",
                 "07", "9999", "10000", "a", "ab", "A", "-", "", ".*", "\n")
        desk = desk_with("a(bc(d))")
        for many in range(1, 4):
            for chosen in itertools.product(words, repeat=many):
                self.assert_line(desk, " ".join(chosen))
        desk = desk_with("a(bc(d))")
        for chosen in itertools.product(("0", "1", "07", "", "a", "12345"), ("0", "2", "00", "-"), words):
            self.assert_line(desk, "put " + " ".join(chosen))
            self.assert_line(desk, "put " + " ".join(chosen) + " a")

    def test_without_a_keeper(self):
        desk = Desk()
        for line in ASKING + ("put 0 0 a", "take 0", "take 1", "back", "read a", "fit a", "fit [", "nth 9999", "put 9 9 A"):
            self.assert_refused(NoLine, desk.answer, line)
        for line, error in (("tree b(", NoTree), ("tree ", NoTree), ("net ", NoText), ("net a,0", NoText),
                            ("net " + show_net(great_net(60, 2)), TooMany)):
            self.assert_refused(error, desk.answer, line)
            self.assert_refused(NoLine, desk.answer, "show")
        self.assertEqual((desk.answer("tree q"), desk.answer("show")), ("ok", "q"))

    def test_anything(self):
        for desk in (Desk(), desk_with("a(b)")):
            for thing in samples.things() + [0, 1, b"show", ["show"], ("show",), {"show": 1}, ("tree", "a"), ["put", 0, 0, "a"]]:
                self.assert_refused(NoLine, desk.answer, thing)

    def test_a_line_of_any_signs(self):
        desk = desk_with("a(b)")
        for number in list(range(32, 127)) + [10]:
            sign = chr(number)
            for line in (sign, "show" + sign, sign + "show", "take " + sign, "read " + sign, "fit " + sign, "put 0 0 " + sign,
                         "nth " + sign, "put 0 " + sign + " a", "back" + sign, "show" + sign + "show"):
                self.assert_line(desk, line)


class Stages(Asking):

    def test_the_first_refusal_due(self):
        desk = desk_with("a(bc(d))")
        for line, error in (
                ("put 4 0 a", NoPlace), ("put 9999 9999 AB", NoPlace), ("put 0 3 a", NoNumber), ("put 0 3 A", NoNumber),
                ("put 3 1 a", NoNumber), ("put 0 0 A", NoLetter), ("put 0 0 aa", NoLetter), ("put 0 0 -", NoLetter),
                ("put 0 0 0", NoLetter), ("put 0 0 \n", NoLetter), ("put 0 0 a\n", NoLetter), ("take 4", NoPlace), ("take 9999", NoPlace),
                ("take 0", NoLeaf), ("take 2", NoLeaf), ("back", NoChange), ("nth 8", NoNumber), ("nth 9999", NoNumber),
                ("fit *", NoPattern), ("fit [", NoPattern), ("fit --", NoPattern), ("fit A", NoPattern), ("fit a\n", NoPattern),
                ("fit " + "a" * 41, NoPattern), ("fit " + "~" * 3990, NoPattern)):
            self.assert_refused(error, desk.answer, line)
            self.assertEqual(desk.answer("show"), "a(bc(d))")
        for text in NO_PATTERNS:
            if text and " " not in text and text != "-":
                self.assert_refused(NoPattern, desk.answer, "fit " + text)

    def test_too_many(self):
        desk = desk_with("a(" + "b" * 59 + ")")
        self.assert_refused(TooMany, desk.answer, "put 0 0 a")
        self.assert_refused(NoLetter, desk.answer, "put 0 0 A")
        self.assertEqual(desk.answer("take 59"), "59 59 59")
        self.assertEqual(desk.answer("put 0 58 b"), "59 59 59")

    def test_trees_that_are_none(self):
        desk = desk_with("a(b)")
        desk.answer("put 1 0 c")
        for text, at in (("", 0), (" ", 0), (" a", 0), ("a ", 1), ("a b", 1), ("a(", 2), ("a()", 2), ("A", 0), ("ab", 1), ("a(b))", 4),
                         ("-", 0), ("a\n", 1), ("\na", 0), ("a(" + "b" * 60 + ")", 61), ("tree a", 1)):
            refusal = self.assert_refused(NoTree, desk.answer, "tree " + text)
            self.assertEqual(refusal.at, at, text)
            self.assertEqual(desk.answer("show"), "a(b(c))")
        self.assertEqual(desk.answer("back"), "2 2 2")
        self.assert_refused(NoChange, desk.answer, "back")

    def test_nets_that_are_none_or_too_great(self):
        desk = desk_with("a(b)")
        desk.answer("put 1 0 c")
        for text in ("", " ", " a", "a ", "a  b", "a,0", "a b,1", "a b,00", "ab", "A", "-", "a\n", "a(b)", "net a", "a," * 60):
            self.assert_refused(NoText, desk.answer, "net " + text)
            self.assertEqual(desk.answer("show"), "a(b(c))")
        for net in great_nets() + [great_net(6, 2), (("a", ()), ("b", (0,) * 60))]:
            self.assert_refused(TooMany, desk.answer, "net " + show_net(net))
            self.assertEqual(desk.answer("show"), "a(b(c))")
        self.assertEqual(desk.answer("back"), "2 2 2")
        self.assertEqual(desk.answer("net a b" + ",0" * 59), "ok")
        self.assertEqual(desk.answer("show"), "b(" + "a" * 59 + ")")

    def test_a_new_tree_has_no_deeds(self):
        desk = desk_with("a")
        desk.answer("put 0 0 b")
        for line in ("tree c(d)", "net d c,0"):
            self.assertEqual(desk.answer(line), "ok")
            self.assert_refused(NoChange, desk.answer, "back")
            self.assertEqual(desk.answer("show"), "c(d)")
            desk.answer("take 1")

    def test_two_desks_beside_one_another(self):
        one, other = desk_with("a(b)"), Desk()
        self.assert_refused(NoLine, other.answer, "show")
        other.answer("tree a(b)")
        one.answer("put 0 0 c")
        self.assertEqual((one.answer("show"), other.answer("show")), ("a(cb)", "a(b)"))
        self.assert_refused(NoChange, other.answer, "back")
        other.answer("net q")
        self.assertEqual((one.answer("back"), one.answer("show"), other.answer("show")), ("1 2 1", "a(b)", "q"))

    def test_the_same_line_has_the_same_answer(self):
        desk = desk_with("a(bc(d))")
        for line in ASKING:
            self.assertEqual(desk.answer(line), desk.answer(line))


if __name__ == "__main__":
    unittest.main()
