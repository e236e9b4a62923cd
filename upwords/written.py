"""Trees written as texts, and read from them."""

from upwords.errors import NoTree
from upwords.kinds import LETTERS
from upwords.trees import MOST_PLACES, deep_of


def show_tree(tree):
    parts = []
    deep = 0
    for place, letter in enumerate(tree[1]):
        deep_here = deep_of(tree, place)
        # One step deeper opens a bracket; each step back shuts one.
        if deep_here > deep:
            parts.append("(")
        else:
            parts.append(")" * (deep - deep_here))
        parts.append(letter)
        deep = deep_here
    parts.append(")" * deep)
    return "".join(parts)


def read_tree(text):
    if not isinstance(text, str):
        raise NoTree(-1)
    scan = Scan()
    for at, sign in enumerate(text):
        if not scan.can_take(sign):
            raise NoTree(at)
        scan.take(sign)
    if not scan.is_done():
        raise NoTree(len(text))
    return (tuple(scan.ups), "".join(scan.letters))


class Scan:
    # What of a tree has been read. Whatever signs it could take, brackets
    # that are shut make a tree of it, so the first sign that it can't take
    # is the first with which no tree's text goes on.

    def __init__(self):
        self.ups = []
        self.letters = []
        # The places whose brackets are not shut yet, the innermost last.
        self.within = []
        self.last = ""

    def can_take(self, sign):
        if sign == ")":
            return self.within != [] and self.last != "("
        # A bracket wants a letter in it, so it too needs room for one.
        if len(self.letters) == MOST_PLACES:
            return False
        if sign == "(":
            return self.last in LETTERS and self.last != ""
        return sign in LETTERS and (self.last == "" or self.within != [])

    def take(self, sign):
        if sign == "(":
            self.within.append(len(self.letters) - 1)
        elif sign == ")":
            self.within.pop()
        else:
            self.ups.append(self.within[-1] if self.within else -1)
            self.letters.append(sign)
        self.last = sign

    def is_done(self):
        return self.within == [] and self.last != ""
