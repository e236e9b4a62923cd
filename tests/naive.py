"""What the promises say, put as plainly as can be, to hold what is told against."""

import functools


def word_at(tree, place):
    word = ""
    while place != -1:
        word += tree[1][place]
        place = tree[0][place]
    return word


def words(tree):
    return [word_at(tree, place) for place in range(len(tree[1]))]


def order(tree):
    return [place for word, place in sorted((word, place) for place, word in enumerate(words(tree)))]


def read_at(tree, word):
    return [place for place, own in enumerate(words(tree)) if own[:len(word)] == word]


def self_and_above(tree, place):
    found = []
    while place != -1:
        found.append(place)
        place = tree[0][place]
    return found


def unlike(tree):
    return sorted({word[:length] for word in words(tree) for length in range(1, len(word) + 1)})


def counts(tree):
    """Of each unlike word, and of that of no letters, at how many places it is read."""
    found = {}
    for word in words(tree):
        for length in range(len(word) + 1):
            found[word[:length]] = found.get(word[:length], 0) + 1
    return found


@functools.cache
def kept(tree):
    in_order = order(tree)
    return [0] + sorted(range(1, len(tree[1])), key=lambda place: (in_order.index(tree[0][place]), place))


def beneath(tree, place):
    return [lower for lower in range(len(tree[0])) if tree[0][lower] == place]


@functools.cache
def rows(tree):
    places = kept(tree)
    return ("".join(tree[1][place] for place in places),
            tuple(place == 0 or beneath(tree, tree[0][place])[-1] == place for place in places),
            tuple(beneath(tree, place) == [] for place in places))


@functools.cache
def contexts(tree):
    """In the rows' order."""
    return [word_at(tree, place)[1:] + "." for place in kept(tree)]


@functools.cache
def beginnings(tree):
    return tuple(sorted({context[:length] for context in contexts(tree) for length in range(len(context) + 1)}))


@functools.cache
def labels_under(tree, beginning):
    return "".join(letter for letter, context in zip(rows(tree)[0], contexts(tree)) if context.startswith(beginning))


def piece(labels):
    letters = sorted(set(labels))
    told = f"{len(labels)} {''.join(letters)}"
    if len(letters) > 1:
        base = len(letters)
        number = sum(letters.index(label) * base ** power for power, label in enumerate(reversed(labels)))
        told += " " + str(number).rjust(len(str(base ** len(labels) - 1)), "0")
    return told


def is_cover(tree, parts):
    known = beginnings(tree)
    return (list(parts) == sorted(set(parts)) and all(part in known for part in parts)
            and all(sum(context.startswith(part) for part in parts) == 1 for context in contexts(tree)))


def covers(tree, beginning=""):
    """All of them, each made of whole and parted beginnings."""
    longer = [other for other in beginnings(tree) if other and other[:-1] == beginning]
    found = [()] if longer else []
    for other in longer:
        found = [front + back for front in found for back in covers(tree, other)]
    return [(beginning,)] + found


def price(tree, cover):
    return len(",".join(piece(labels_under(tree, part)) for part in cover))
