"""What the promises say, put as plainly as can be, to hold what is told against."""


def word_at(tree, place):
    word = ""
    while place != -1:
        word += tree[1][place]
        place = tree[0][place]
    return word


def words(tree):
    return [word_at(tree, place) for place in range(len(tree[1]))]


def order(tree):
    return [place for word, place in sorted((word, place) for place, word in enumerate(words(tree)))]


def read_at(tree, word):
    return [place for place, own in enumerate(words(tree)) if own[:len(word)] == word]


def self_and_above(tree, place):
    found = []
    while place != -1:
        found.append(place)
        place = tree[0][place]
    return found


def unlike(tree):
    return sorted({word[:length] for word in words(tree) for length in range(1, len(word) + 1)})


def counts(tree):
    """Of each unlike word, and of that of no letters, at how many places it is read."""
    found = {}
    for word in words(tree):
        for length in range(len(word) + 1):
            found[word[:length]] = found.get(word[:length], 0) + 1
    return found
