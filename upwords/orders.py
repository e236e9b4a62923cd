"""The order of a tree's places by their words."""

from upwords.words import words_of


def order_of(tree):
    words = words_of(tree)
    return sorted(range(len(words)), key=lambda place: (words[place], place))


def ranks_of(tree):
    order = order_of(tree)
    ranks = [0] * len(order)
    for rank, place in enumerate(order):
        ranks[place] = rank
    return ranks


def alike_of(tree):
    words = sorted(words_of(tree))
    return [0] + [many_alike(words[rank - 1], words[rank]) for rank in range(1, len(words))]


def many_alike(one, other):
    many = 0
    while many < min(len(one), len(other)) and one[many] == other[many]:
        many += 1
    return many
