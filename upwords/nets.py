"""Nets: knots that unfold to a tree, told of without unfolding them."""

from upwords.errors import NoPlace, TooMany
from upwords.kinds import is_letter, is_number_below
from upwords.trees import MOST_PLACES, grown_tree

MOST_KNOTS = 60
MOST_BENEATH = 60


def is_net(thing):
    if not isinstance(thing, tuple) or not 1 <= len(thing) <= MOST_KNOTS:
        return False
    return all([is_knot(part, number) for number, part in enumerate(thing)])


def is_knot(thing, number):
    if not isinstance(thing, tuple) or len(thing) != 2 or not is_letter(thing[0]):
        return False
    if not isinstance(thing[1], tuple) or len(thing[1]) > MOST_BENEATH:
        return False
    return all([is_number_below(part, number) for part in thing[1]])


def sizes_of(net):
    sizes = []
    for knot in net:
        sizes.append(1 + sum([sizes[lower] for lower in knot[1]]))
    return sizes


def size_of(net):
    return sizes_of(net)[-1]


def met_of(net):
    met = [0] * len(net)
    met[-1] = 1
    # A knot's own places all come of knots behind it, so they are counted when it is its turn.
    for number in range(len(net) - 1, -1, -1):
        for lower in net[number][1]:
            met[lower] += met[number]
    return met


def word_in(net, place):
    sizes = sizes_of(net)
    if not is_number_below(place, sizes[-1]):
        raise NoPlace("the net doesn't unfold to such a place")
    letters = [net[-1][0]]
    beneath = net[-1][1]
    # How many places stand ahead of the sought one in the bough that was gone into.
    left = place
    while left > 0:
        left -= 1
        for lower in beneath:
            if left < sizes[lower]:
                break
            left -= sizes[lower]
        letters.append(net[lower][0])
        beneath = net[lower][1]
    return "".join(letters[::-1])


def count_in(net, word):
    met = met_of(net)
    if word == "":
        return sum(met)
    # For each knot: by how many ways down the beginning taken so far is read up to it.
    ways = [1 if knot[0] == word[0] else 0 for knot in net]
    for letter in word[1:]:
        ways = [sum([ways[lower] for lower in knot[1]]) if knot[0] == letter else 0 for knot in net]
    return sum([many * way for many, way in zip(met, ways)])


def unfolded_tree(net):
    if size_of(net) > MOST_PLACES:
        raise TooMany("the net unfolds to too many places")
    return grown_tree(net, len(net) - 1)
