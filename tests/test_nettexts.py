"""Promise [37]: nets written as texts; with [2], [3] and [4]."""

import itertools
import re
import unittest

from tests import samples
from tests.asking import Asking
from tests.net_samples import great_net, great_nets, small_nets, some_nets
from upwords.errors import NoText
from upwords.folds import folded_net
from upwords.nettexts import read_net, show_net

NUMBER = "(0|[1-9][0-9]*)"
KNOT = f"[a-z](,{NUMBER})*"


def net_by(text):
    """The net, or None, by the words of the promise."""
    if not re.fullmatch(f"{KNOT}( {KNOT})*", text) or text.endswith("\n"):
        return None
    net = []
    for k, knot in enumerate(text.split(" ")):
        lower = tuple(int(number) for number in re.findall("[0-9]+", knot))
        if len(lower) > 60 or any(number >= k for number in lower):
            return None
        net.append((knot[0], lower))
    return tuple(net) if len(net) <= 60 else None


class Shown(Asking):

    def test_ordinary_nets(self):
        for net, text in (
                ((("a", ()), ("b", (0, 0)), ("c", (1, 0))), "a b,0,0 c,1,0"), ((("q", ()),), "q"),
                ((("a", ()), ("a", (0,))), "a a,0"), ((("z", ()),) * 3, "z z z"),
                (great_net(12, 1), "a a,0 a,1 a,2 a,3 a,4 a,5 a,6 a,7 a,8 a,9 a,10"),
                (great_net(60, 2)[:1] + (("b", ()),) * 58 + (("c", (58, 9, 10, 0)),), "a" + " b" * 58 + " c,58,9,10,0")):
            self.assertEqual(show_net(net), text)
            self.assertEqual(read_net(text), net)

    def test_it_leads_back(self):
        for net in small_nets(3, 2) + some_nets() + great_nets():
            text = show_net(net)
            self.assertEqual(read_net(text), net)
            self.assertEqual(net_by(text), net)

    def test_it_leads_back_of_folded_trees(self):
        for tree in samples.few_trees():
            self.assertEqual(read_net(show_net(folded_net(tree))), folded_net(tree))

    def test_kinds(self):
        self.assert_text(show_net((("a", ()), ("b", (0, 0)))))
        net = read_net("a b,0,0")
        self.assertIs(type(net), tuple)
        for knot in net:
            self.assertIs(type(knot), tuple)
            self.assert_text(knot[0])
            self.assert_wholes(knot[1], tuple)


class Read(Asking):

    def assert_read(self, text):
        net = net_by(text)
        if net is None:
            self.assert_refused(NoText, read_net, text)
        else:
            self.assertEqual(read_net(text), net)
            self.assertEqual(show_net(net), text)

    def test_ordinary_faults(self):
        for text in ("", " ", "a ", " a", "a  b", "a,", "a,,0", ",0", "a b,", "a b,,0", "a b,0,", "a ,0", "a b, 0", "a b,0 ",
                     "0", "a 0", "ab", "a ab", "a bb,0", "A", "a B", "a b,00", "a b,01", "a b,-0", "a b,+0", "a b,-1", "a b,0.0",
                     "a b,0x0", "a b,x", "a b,0_0", "a;b", "a b;0", "a\nb", "a\n", "\na", "a b,0\n", "a b\n,0", "a b,\n0", "a,0",
                     "a b,1", "a b,2", "a b,0,1", "a b c,2", "a b c,3", "a b,10", "a b," + "9" * 3000, "a b,0" + "0" * 3000,
                     "(a)", "a(b)", "a b,(0)", "-", "a b 0", "a b0", "a\tb", "a, b", "a b ,0", ".", "a b,0/", "~" * 4000, "a" * 60,
                     "a," * 60, " " * 60, "," * 60):
            self.assertIsNone(net_by(text))
            self.assert_refused(NoText, read_net, text)

    def test_every_short_text(self):
        for length in range(7):
            for signs in itertools.product("ab0, ", repeat=length):
                self.assert_read("".join(signs))
        for signs in itertools.product("01, ", repeat=5):
            self.assert_read("a b " + "c" + "".join(signs))

    def test_a_sign_otherwise(self):
        text = show_net(some_nets()[-1])[:400].rpartition(" ")[0]
        for text in ("a b,0,0 c,1,0", show_net(great_net(14, 3, "ab")), text):
            self.assertIsNotNone(net_by(text))
            for k in range(0, len(text) + 1, 1 + len(text) // 60):
                self.assert_read(text[:k])
                for sign in "a0, \n1":
                    self.assert_read(text[:k] + sign + text[k:])
                    self.assert_read(text[:k] + sign + text[k + 1:])
                self.assert_read(text[:k] + text[k + 1:])

    def test_numbers_of_a_knot_itself_and_behind_it(self):
        for k in range(60):
            ahead = "a " * k
            for number in (k - 1, k, k + 1, 60, 99, 100):
                self.assert_read(f"{ahead}a,{number}")
            self.assert_read(f"{ahead}a,{max(k - 1, 0):02}")
        self.assertEqual(read_net("a " * 59 + "a,58")[59], ("a", (58,)))

    def test_noughts_ahead(self):
        ahead = "a " * 59
        for number in ("0", "1", "9", "10", "58"):
            self.assertEqual(read_net(f"{ahead}b,{number}")[59], ("b", (int(number),)))
            for more in ("0", "00"):
                self.assert_refused(NoText, read_net, f"{ahead}b,{more}{number}")

    def test_more_than_sixty(self):
        self.assertEqual(read_net(" ".join("a" * 60)), (("a", ()),) * 60)
        self.assert_refused(NoText, read_net, " ".join("a" * 61))
        self.assertEqual(read_net("a b" + ",0" * 60), (("a", ()), ("b", (0,) * 60)))
        self.assert_refused(NoText, read_net, "a b" + ",0" * 61)
        self.assertEqual(read_net(show_net(great_net(60, 60))), great_net(60, 60))
        self.assert_refused(NoText, read_net, show_net(great_net(60, 60)) + " a,59" + ",59" * 59)
        self.assert_refused(NoText, read_net, show_net(great_net(60, 60)) + ",0")
        self.assert_refused(NoText, read_net, show_net(great_net(60, 60)) + " ")

    def test_anything(self):
        for thing in samples.things() + [0, 1, (("a", ()),), ["a"], ("a",), b"a", {"a": ()}, [("a", ())]]:
            self.assert_refused(NoText, read_net, thing)


if __name__ == "__main__":
    unittest.main()
