"""A keeper: a tree whose leaves come and go, and the deeds that can be undone."""

from upwords.errors import NoChange, NoLeaf, NoLetter, NoNumber, NoPlace, TooMany
from upwords.kinds import is_letter, is_number_below
from upwords.orders import order_of, ranks_of
from upwords.rows import kept_order, rows_of
from upwords.sought import how_many
from upwords.trees import MOST_PLACES, beneath_of, bough_of, is_leaf
from upwords.unlike import count_words


class Keeper:

    def __init__(self, tree):
        self.tree = tree
        # The deeds that stand, the last one last: the tree ahead of each, and what it told.
        self.deeds = []

    def put(self, place, number, letter):
        self.refuse_no_place(place)
        beneath = beneath_of(self.tree, place)
        if not is_number_below(number, len(beneath) + 1):
            raise NoNumber("a leaf can't be put in as the one with this number")
        if not is_letter(letter):
            raise NoLetter("this is no small letter")
        if len(self.tree[1]) >= MOST_PLACES:
            raise TooMany("there is no room for a further place")
        # It comes ahead of the one that has this number so far, or behind all of them.
        leaf = (beneath + [bough_of(self.tree, place)[1]])[number]
        grown = with_leaf(self.tree, leaf, place, letter)
        return self.change(grown, triple_of(grown, leaf))

    def take(self, place):
        self.refuse_no_place(place)
        if place == 0 or not is_leaf(self.tree, place):
            raise NoLeaf("this place is the root or no leaf")
        return self.change(without_leaf(self.tree, place), triple_of(self.tree, place))

    def back(self):
        if self.deeds == []:
            raise NoChange("no deed is left")
        deed = self.deeds.pop()
        self.tree = deed[0]
        return deed[1]

    def change(self, tree, triple):
        self.deeds.append((self.tree, triple))
        self.tree = tree
        return triple

    def refuse_no_place(self, place):
        if not is_number_below(place, len(self.tree[1])):
            raise NoPlace("there is no such place")

    def tree_now(self):
        return self.tree

    def order_now(self):
        return order_of(self.tree)

    def rows_now(self):
        return rows_of(self.tree)

    def count_now(self, word):
        return how_many(self.tree, word)

    def many_now(self):
        return count_words(self.tree)

    def deeds_now(self):
        return len(self.deeds)


def with_leaf(tree, leaf, above, letter):
    ups = [up + 1 if up >= leaf else up for up in tree[0]]
    ups.insert(leaf, above)
    return (tuple(ups), tree[1][:leaf] + letter + tree[1][leaf:])


def without_leaf(tree, leaf):
    ups = [up - 1 if up > leaf else up for up in tree[0]]
    ups.pop(leaf)
    return (tuple(ups), tree[1][:leaf] + tree[1][leaf + 1:])


def triple_of(tree, place):
    return (place, ranks_of(tree)[place], kept_order(tree).index(place))
