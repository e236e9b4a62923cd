"""Words that are sought: where they are read, whole or in part."""

from upwords.errors import NoNumber
from upwords.kinds import is_number_below
from upwords.orders import many_alike, order_of
from upwords.trees import all_above
from upwords.words import words_of


def stretch_of(tree, word):
    return stretch_in(words_of(tree), word)


def stretch_in(words, word):
    # What begins with a word is no less than it, and less than all else
    # that is greater: so it stands straight behind what is less.
    first = len([other for other in words if other < word])
    return (first, first + count_read(words, word))


def count_read(words, word):
    return len([other for other in words if other.startswith(word)])


def places_of(tree, word):
    return [place for place, other in enumerate(words_of(tree)) if other.startswith(word)]


def how_many(tree, word):
    return count_read(words_of(tree), word)


def nth_place(tree, word, k):
    stretch = stretch_of(tree, word)
    if not is_number_below(k, stretch[1] - stretch[0]):
        raise NoNumber("the word is not read at a place with this number")
    return order_of(tree)[stretch[0] + k]


def longest_beginning(tree, word):
    return word[:max([many_alike(word, other) for other in words_of(tree)])]


def longest_end(tree, word):
    words = words_of(tree)
    start = 0
    # The end of no letters is read at each place, so this comes to a stop.
    while count_read(words, word[start:]) == 0:
        start += 1
    return word[start:]


def both_read(tree, one, other):
    reading = places_of(tree, other)
    found = []
    for place in places_of(tree, one):
        if any([upper in reading for upper in [place] + all_above(tree[0], place)]):
            found.append(place)
    return found
