"""Covers: partings of the words above into pieces, their prices, and floors that show the least."""

from upwords.errors import NoCover
from upwords.kinds import is_rising, is_whole
from upwords.rows import kept_order, rows_of
from upwords.sought import count_read, stretch_in
from upwords.words import word_above


def context_of(tree, place):
    return word_above(tree, place) + "."


def contexts_of(tree):
    # In the kept order they rise, for the point is less than all letters.
    return [context_of(tree, place) for place in kept_order(tree)]


def beginnings_of(tree):
    found = {}
    for context in contexts_of(tree):
        for length in range(len(context) + 1):
            found[context[:length]] = True
    return tuple(sorted(found))


def rows_under(tree, beginning):
    return stretch_in(contexts_of(tree), beginning)


def piece_of(tree, beginning):
    return pieces_of(tree, (beginning,))[0]


def pieces_of(tree, beginnings):
    contexts = contexts_of(tree)
    labels = rows_of(tree)[0]
    stretches = [stretch_in(contexts, beginning) for beginning in beginnings]
    return [piece_by(labels[stretch[0]:stretch[1]]) for stretch in stretches]


def piece_by(labels):
    many = len(labels)
    letters = "".join(sorted(set(labels)))
    if len(letters) == 1:
        return f"{many} {letters}"
    number = 0
    for label in labels:
        number = number * len(letters) + letters.index(label)
    figures = str(number).zfill(figures_for(len(letters), many))
    return f"{many} {letters} {figures}"


def figures_for(base, many):
    behind = 1
    for k in range(many):
        behind = behind * base
    return len(str(behind - 1))


def is_cover(tree, thing):
    if not isinstance(thing, tuple) or not all([isinstance(part, str) for part in thing]):
        return False
    contexts = contexts_of(tree)
    if not all([count_read(contexts, part) > 0 for part in thing]) or not is_rising(thing):
        return False
    return all([len([part for part in thing if context.startswith(part)]) == 1 for context in contexts])


def price_of(tree, cover):
    if not is_cover(tree, cover):
        raise NoCover("this is no cover of the tree")
    return len(",".join(pieces_of(tree, cover)))


def least_cover(tree):
    beginnings = beginnings_of(tree)
    floors = floors_of(tree)
    longer = longer_by(beginnings)
    pieces = dict(zip(beginnings, pieces_of(tree, beginnings)))
    cover = []
    # Beginnings that stand for all longer ones or are parted into them, the next one last.
    waiting = [""]
    while waiting:
        beginning = waiting.pop()
        # Of two as cheap the whole one is first, for a beginning is less
        # than all that are longer.
        if len(pieces[beginning]) == floors[beginning]:
            cover.append(beginning)
        else:
            waiting.extend(longer[beginning][::-1])
    return (floors[""], tuple(cover))


def floors_of(tree):
    beginnings = beginnings_of(tree)
    longer = longer_by(beginnings)
    pieces = pieces_of(tree, beginnings)
    floors = {}
    # What is longer stands behind, so from the end on its floors are there already.
    for k in range(len(beginnings) - 1, -1, -1):
        floors[beginnings[k]] = most_for(pieces[k], floors, longer[beginnings[k]])
    return floors


def longer_by(beginnings):
    longer = {}
    for beginning in beginnings:
        longer[beginning] = []
        if beginning != "":
            longer[beginning[:-1]].append(beginning)
    return longer


def most_for(piece, floors, longer):
    if longer == []:
        return len(piece)
    return min(len(piece), sum([floors[beginning] for beginning in longer]) + len(longer) - 1)


def floors_show(tree, number, thing):
    beginnings = beginnings_of(tree)
    if not isinstance(thing, dict) or len(thing) != len(beginnings):
        return False
    if not all([beginning in thing and is_whole(thing[beginning]) for beginning in beginnings]):
        return False
    longer = longer_by(beginnings)
    for beginning, piece in zip(beginnings, pieces_of(tree, beginnings)):
        if thing[beginning] > most_for(piece, thing, longer[beginning]):
            return False
    return thing[""] >= number
