"""The words of a tree's places, and the classes of their beginnings."""


def words_of(tree):
    words = []
    for letter, up in zip(tree[1], tree[0]):
        # A place stands behind the one above it, whose word is there already.
        words.append(letter if up == -1 else letter + words[up])
    return words


def word_of(tree, place):
    return words_of(tree)[place]


def word_above(tree, place):
    return word_of(tree, place)[1:]


def classes_of(tree, length):
    beginnings = [word[:length] for word in words_of(tree)]
    unlike = sorted(set(beginnings))
    return [unlike.index(beginning) for beginning in beginnings]
