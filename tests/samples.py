"""Trees and things that the tests ask about."""

ALL_LETTERS = "abcdefghijklmnopqrstuvwxyz"
SIZES = (1, 2, 3, 7, 26, 59, 60)


def drawn(seed):
    """Numbers that look drawn and are the same in every run."""
    state = seed * 2654435761 % 2 ** 32 + 1
    while True:
        state = (state * 1664525 + 1013904223) % 2 ** 32
        yield state >> 16


def path(many):
    return tuple(range(-1, many - 1))


def star(many):
    return (-1,) + (0,) * (many - 1)


def comb(many):
    """A way down with a leaf ahead of each further step."""
    return (-1,) + tuple(k - 1 if k % 2 else k - 2 for k in range(1, many))


def comb_behind(many):
    """A way down, then on the way back a leaf at each step."""
    spine = (many + 1) // 2
    return path(spine) + tuple(spine - 2 - k if k < spine - 1 else 0 for k in range(many - spine))


def halved(many):
    """As low as a tree with two beneath each place can be."""
    ups = []

    def grow(above, size):
        if size > 0:
            own = len(ups)
            ups.append(above)
            grow(own, (size - 1) // 2)
            grow(own, size - 1 - (size - 1) // 2)

    grow(-1, many)
    return tuple(ups)


def again(many):
    """One bough of four places beneath the root, over and over."""
    bough = (None, 0, 1, 0)
    return (-1,) + tuple(
        0 if k % 4 == 0 else 1 + k - k % 4 + bough[k % 4] for k in range(many - 1))


def any_shape(many, seed, deepest=60):
    numbers = drawn(seed)
    ups = [-1]
    for place in range(1, many):
        chain = [place - 1]
        while ups[chain[-1]] != -1:
            chain.append(ups[chain[-1]])
        near_root = chain[-deepest:]
        ups.append(near_root[next(numbers) % len(near_root)])
    return tuple(ups)


def shapes(many):
    return (path(many), star(many), comb(many), comb_behind(many), halved(many), again(many),
            any_shape(many, many), any_shape(many, many + 100), any_shape(many, many, 3))


def lettered(many, letters, seed):
    numbers = drawn(seed)
    return "".join(letters[next(numbers) % len(letters)] for k in range(many))


def labels_for(many):
    return ("a" * many, "z" * many, lettered(many, "ab", many), lettered(many, "aaab", many + 1),
            ("abcd" * many)[:many], lettered(many, ALL_LETTERS, many),
            (ALL_LETTERS * 3)[:many], (ALL_LETTERS * 3)[many - 1::-1])


def many_trees():
    found = {}
    for many in SIZES:
        for ups in shapes(many):
            for labels in labels_for(many):
                found[(ups, labels)] = True
    return list(found)


def few_trees():
    """Some of each kind, for what takes long to ask of all."""
    trees = many_trees()
    return [tree for k, tree in enumerate(trees) if k % 7 == 0] + [
        (shape(60), labels) for shape in (path, star, comb, again)
        for labels in ("a" * 60, lettered(60, "ab", 5), lettered(60, ALL_LETTERS, 6))]


def all_shapes(many):
    """Every ups of so many places, by the words of the promise."""
    shapes_here = [(-1,)]
    for place in range(1, many):
        longer = []
        for ups in shapes_here:
            up = place - 1
            while up != -1:
                longer.append(ups + (up,))
                up = ups[up]
        shapes_here = longer
    return shapes_here


def all_texts(signs, longest):
    texts = [""]
    found = [""]
    for length in range(longest):
        texts = [text + sign for text in texts for sign in signs]
        found.extend(texts)
    return found


def small_trees(most):
    """Every tree of few places with the letters a and b."""
    found = []
    for many in range(1, most + 1):
        for labels in [text for text in all_texts("ab", many) if len(text) == many]:
            for ups in all_shapes(many):
                found.append((ups, labels))
    return found


def words_about(words):
    """Read ones, whole ones, and such as are read nowhere: below, between and above."""
    found = {"": True, "a" * 60: True, "z" * 60: True, "z" * 61: True, ALL_LETTERS: True}
    for word in words[:3] + words[len(words) // 2:len(words) // 2 + 2] + words[-3:]:
        for length in (1, 2, len(word) // 2, len(word) - 1, len(word)):
            begun = word[:length]
            for tried in (begun, begun + "a", begun + "m", begun + "z", begun[:-1] + "a", begun[:-1] + "z",
                          "b" + begun, begun[1:]):
                found[tried] = True
    return list(found)


class Thing:
    pass


def nested(deep):
    thing = "a"
    for k in range(deep):
        thing = (thing,) if k % 2 else [thing]
    return thing


def things():
    """Of every kind, and none of them a number from 0 on or a text of letters."""
    return [None, True, False, -1, -2, 10 ** 59, -10 ** 59, 10 ** 60 - 1, (), [], {}, set(), frozenset(),
            b"", b"a", "A", " ", "\n", "-1", "0", "1", "~" * 4000, [0], (0,), {0: 0}, {0}, [[]], ((),),
            (None,), [None], {"a": [1, (2, {})]}, nested(8), Thing, Thing(), len, range(3), object(), 1j,
            [0] * 400, (0,) * 400, dict.fromkeys(range(400)), ValueError("a"), NotImplemented, ...]
