"""Rows: a tree's letters and marks in the kept order, and the tree that comes back of them."""

from upwords.errors import NoRows
from upwords.orders import ranks_of
from upwords.trees import beneath_of, grown_tree, is_labels, is_leaf


def kept_order(tree):
    ups = tree[0]
    ranks = ranks_of(tree)
    return [0] + sorted(range(1, len(ups)), key=lambda place: (ranks[ups[place]], place))


def rows_of(tree):
    order = kept_order(tree)
    labels = "".join([tree[1][place] for place in order])
    lasts = tuple([is_last(tree, place) for place in order])
    leaves = tuple([is_leaf(tree, place) for place in order])
    return (labels, lasts, leaves)


def is_last(tree, place):
    return place == 0 or place == beneath_of(tree, tree[0][place])[-1]


def is_rows(thing):
    # What has the form may still be no tree's: where rows hang round in a ring, the tree lacks them.
    return has_form(thing) and rows_of(tree_by(thing)) == thing


def tree_of(rows):
    if not is_rows(rows):
        raise NoRows("these are no tree's rows")
    return tree_by(rows)


def has_form(thing):
    if not isinstance(thing, tuple) or len(thing) != 3 or not is_labels(thing[0]):
        return False
    many = len(thing[0])
    if not is_truths(thing[1], many) or not is_truths(thing[2], many):
        return False
    return len(groups_of(thing)) == thing[2].count(False)


def is_truths(thing, many):
    if not isinstance(thing, tuple) or len(thing) != many:
        return False
    return all([isinstance(part, bool) for part in thing])


def tree_by(rows):
    groups = [tuple(range(group[0], group[1])) for group in groups_of(rows)]
    beneath = [() if number is None else groups[number] for number in group_numbers(rows)]
    # Each row but 0 stands in one group at most, so none is come to twice.
    return grown_tree(list(zip(rows[0], beneath)), 0)


def groups_of(rows):
    found = []
    first = 1
    for row, last in enumerate(rows[1]):
        # Row 0 is the last beneath no row, so it ends no group.
        if row > 0 and last:
            found.append((first, row + 1))
            first = row + 1
    return found


def group_numbers(rows):
    inner = sorted([(rows[0][row], row) for row, leaf in enumerate(rows[2]) if not leaf])
    numbers = [None] * len(rows[2])
    for number, pair in enumerate(inner):
        numbers[pair[1]] = number
    return numbers
