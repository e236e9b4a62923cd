"""Tries: trees without two alike beneath one place, by the ways down from the root; two laid together."""

from upwords.errors import NoTries, TooMany
from upwords.kinds import is_rising
from upwords.trees import MOST_PLACES, beneath_of, is_tree
from upwords.words import words_of


def is_trie(thing):
    return is_tree(thing) and all([is_rising(letters_beneath(thing, place)) for place in range(len(thing[1]))])


def letters_beneath(tree, place):
    return [tree[1][lower] for lower in beneath_of(tree, place)]


def ways_down(tree):
    return [word[::-1] for word in words_of(tree)]


def trie_of(tree):
    ways = ways_down(tree)
    unlike = sorted(set(ways))
    return (trie_by(unlike), places_by(unlike, ways))


def trie_by(ways):
    # In order each way stands straight ahead of those that begin with it,
    # as a place does of its bough.
    known = numbers_by(ways)
    ups = [known.get(way[:-1], -1) for way in ways]
    return (tuple(ups), "".join([way[-1] for way in ways]))


def places_by(known_ways, ways):
    known = numbers_by(known_ways)
    return [known.get(way) for way in ways]


def numbers_by(ways):
    return dict([(way, number) for number, way in enumerate(ways)])


def laid_over(one, other):
    refuse_no_tries(one, other)
    ways = sorted(set(ways_down(one)) | set(ways_down(other)))
    if len(ways) > MOST_PLACES:
        raise TooMany("too many places come of these tries")
    return laid_by(ways, one, other)


def laid_under(one, other):
    refuse_no_tries(one, other)
    return laid_by(sorted(set(ways_down(one)) & set(ways_down(other))), one, other)


def refuse_no_tries(one, other):
    if not is_trie(one) or not is_trie(other) or one[1][0] != other[1][0]:
        raise NoTries("these are no two tries with like letters at their roots")


def laid_by(ways, one, other):
    pairs = list(zip(places_by(ways_down(one), ways), places_by(ways_down(other), ways)))
    return (trie_by(ways), pairs)
