"""Trees: what is one, and what stands above and beneath a place of it."""

from upwords.kinds import is_letters, is_whole

MOST_PLACES = 60


def is_tree(thing):
    if not isinstance(thing, tuple) or len(thing) != 2:
        return False
    return is_labels(thing[1]) and is_ups(thing[0], len(thing[1]))


def is_labels(thing):
    return is_letters(thing) and 1 <= len(thing) <= MOST_PLACES


def is_ups(thing, many):
    if not isinstance(thing, tuple) or len(thing) != many:
        return False
    if not all([is_whole(up) for up in thing]) or thing[0] != -1:
        return False
    # In rising order, for the way up from a place can be gone only
    # where all numbers ahead have been found right.
    for place in range(1, many):
        ahead = place - 1
        if thing[place] != ahead and thing[place] not in all_above(thing, ahead):
            return False
    return True


def all_above(ups, place):
    found = []
    up = ups[place]
    while up != -1:
        found.append(up)
        up = ups[up]
    return found


def above_of(tree, place):
    if place == 0:
        return None
    return tree[0][place]


def beneath_of(tree, place):
    return [other for other, up in enumerate(tree[0]) if up == place]


def is_leaf(tree, place):
    return place not in tree[0]


def bough_of(tree, place):
    ups = tree[0]
    behind = place + 1
    # A bough has no gap: it ends at the first number that hangs above it.
    while behind < len(ups) and ups[behind] >= place:
        behind += 1
    return (place, behind)


def deep_of(tree, place):
    return len(all_above(tree[0], place))


def grown_tree(knots, start):
    ups = []
    labels = []
    # Knots that become places, with the place above each, the next one last.
    waiting = [(start, -1)]
    while waiting:
        pair = waiting.pop()
        knot = knots[pair[0]]
        place = len(ups)
        ups.append(pair[1])
        labels.append(knot[0])
        waiting.extend([(lower, place) for lower in knot[1][::-1]])
    return (tuple(ups), "".join(labels))
