"""What the promises say, put as plainly as can be, to hold what is told against."""

import functools
import re


def word_at(tree, place):
    word = ""
    while place != -1:
        word += tree[1][place]
        place = tree[0][place]
    return word


def words(tree):
    return [word_at(tree, place) for place in range(len(tree[1]))]


def order(tree):
    return [place for word, place in sorted((word, place) for place, word in enumerate(words(tree)))]


def read_at(tree, word):
    return [place for place, own in enumerate(words(tree)) if own[:len(word)] == word]


def self_and_above(tree, place):
    found = []
    while place != -1:
        found.append(place)
        place = tree[0][place]
    return found


def unlike(tree):
    return sorted({word[:length] for word in words(tree) for length in range(1, len(word) + 1)})


def counts(tree):
    """Of each unlike word, and of that of no letters, at how many places it is read."""
    found = {}
    for word in words(tree):
        for length in range(len(word) + 1):
            found[word[:length]] = found.get(word[:length], 0) + 1
    return found


@functools.cache
def kept(tree):
    in_order = order(tree)
    return [0] + sorted(range(1, len(tree[1])), key=lambda place: (in_order.index(tree[0][place]), place))


def beneath(tree, place):
    return [lower for lower in range(len(tree[0])) if tree[0][lower] == place]


@functools.cache
def rows(tree):
    places = kept(tree)
    return ("".join(tree[1][place] for place in places),
            tuple(place == 0 or beneath(tree, tree[0][place])[-1] == place for place in places),
            tuple(beneath(tree, place) == [] for place in places))


@functools.cache
def contexts(tree):
    """In the rows' order."""
    return [word_at(tree, place)[1:] + "." for place in kept(tree)]


@functools.cache
def beginnings(tree):
    return tuple(sorted({context[:length] for context in contexts(tree) for length in range(len(context) + 1)}))


@functools.cache
def labels_under(tree, beginning):
    return "".join(letter for letter, context in zip(rows(tree)[0], contexts(tree)) if context.startswith(beginning))


def piece(labels):
    letters = sorted(set(labels))
    told = f"{len(labels)} {''.join(letters)}"
    if len(letters) > 1:
        base = len(letters)
        number = sum(letters.index(label) * base ** power for power, label in enumerate(reversed(labels)))
        told += " " + str(number).rjust(len(str(base ** len(labels) - 1)), "0")
    return told


def is_cover(tree, parts):
    known = beginnings(tree)
    return (list(parts) == sorted(set(parts)) and all(part in known for part in parts)
            and all(sum(context.startswith(part) for part in parts) == 1 for context in contexts(tree)))


def covers(tree, beginning=""):
    """All of them, each made of whole and parted beginnings."""
    longer = [other for other in beginnings(tree) if other and other[:-1] == beginning]
    found = [()] if longer else []
    for other in longer:
        found = [front + back for front in found for back in covers(tree, other)]
    return [(beginning,)] + found


def price(tree, cover):
    return len(",".join(piece(labels_under(tree, part)) for part in cover))


def ways(tree):
    """The ways down, place by place."""
    return [word[::-1] for word in words(tree)]


def is_trie(tree):
    """Of a tree."""
    for place in range(len(tree[1])):
        letters = [tree[1][lower] for lower in beneath(tree, place)]
        if letters != sorted(set(letters)):
            return False
    return True


def trie(ways_of_it):
    """The trie of just these ways, grown place by place."""
    ups, labels = [], []

    def grow(way, above):
        place = len(ups)
        ups.append(above)
        labels.append(way[-1])
        for longer in sorted({other for other in ways_of_it if other[:-1] == way}):
            grow(longer, place)

    grow(min(ways_of_it, key=len), -1)
    return tuple(ups), "".join(labels)


def items(pattern):
    """Pairs of what a pattern's items are written as, without the star, and the star or nothing."""
    return tuple(re.findall(r"([a-z.]|\[[a-z]+\])(\*?)", pattern))


@functools.cache
def taken(item, letter):
    return re.fullmatch(item, letter) is not None


@functools.cache
def shares_by(parts, word):
    """Each share tried from the least one on, so that the first that is found is the first."""
    if not parts:
        return () if word == "" else None
    item, star = parts[0]
    for many in range(len(word) + 1) if star else range(1, 2):
        if len(word) >= many and all(taken(item, letter) for letter in word[:many]):
            rest = shares_by(parts[1:], word[many:])
            if rest is not None:
                return (many,) + rest
    return None


def shares(pattern, word):
    return shares_by(items(pattern), word)


def fits(pattern, word):
    return shares(pattern, word) is not None


def fitting(tree, pattern):
    return [word for word in unlike(tree) if fits(pattern, word)]


def goes_on(parts, state):
    """Without a letter."""
    return [state + 1] if state < len(parts) and parts[state][1] else []


def goes_by(parts, state, letter):
    if state == len(parts) or not taken(parts[state][0], letter):
        return []
    return [state] if parts[state][1] else [state + 1]


def wanted_marks(tree, parts, marks):
    """Pairs (place, state): what has to be in marks beside what is."""
    wanted = [(place, 0) for place in range(len(marks))]
    for place, states in enumerate(marks):
        for state in states:
            wanted.extend((place, other) for other in goes_on(parts, state))
            if place > 0:
                wanted.extend((tree[0][place], other) for other in goes_by(parts, state, tree[1][place]))
    return [(place, state) for place, state in wanted if state not in marks[place]]


def marks(tree, pattern):
    """The least ones: what is wanted is put in, until nothing is."""
    parts = items(pattern)
    found = [set() for place in tree[1]]
    while wanted_marks(tree, parts, found):
        for place, state in wanted_marks(tree, parts, found):
            found[place].add(state)
    return tuple(tuple(sorted(states)) for states in found)


def marks_show(tree, pattern, given):
    """Of a tuple, place by place, of rising tuples of states."""
    parts = items(pattern)
    if wanted_marks(tree, parts, given):
        return False
    behind = {other for state in given[0] for other in goes_by(parts, state, tree[1][0])}
    for state in range(len(parts) + 1):
        if state in behind:
            behind.update(goes_on(parts, state))
    return all(len(parts) not in states for states in given + (behind,))
