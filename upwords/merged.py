"""The words of two trees side by side: all in one order, those of both, and those of one alone."""

from upwords.unlike import unlike_words
from upwords.words import words_of


def both_merged(one, other):
    words = words_of(one) + words_of(other)
    pairs = [(0, place) for place in range(len(one[1]))] + [(1, place) for place in range(len(other[1]))]
    return [both[1] for both in sorted(zip(words, pairs))]


def common_words(one, other):
    return sorted(set(unlike_words(one)) & set(unlike_words(other)))


def count_common(one, other):
    return len(common_words(one, other))


def longest_common(one, other):
    # Of several as long max takes the first, as min does below, and they stand in order.
    return max(common_words(one, other), key=len, default="")


def shortest_own(one, other):
    return min(sorted(set(unlike_words(one)) - set(unlike_words(other))), key=len, default=None)
