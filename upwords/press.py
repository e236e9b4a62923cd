"""A tree's rows pressed into few signs by a cover, and read back."""

from upwords.covers import contexts_of, figures_for, is_cover, least_cover, pieces_of
from upwords.errors import NoCover, NoText
from upwords.kinds import is_figures
from upwords.orders import many_alike
from upwords.rows import is_rows, rows_of, tree_of


def press_by(tree, cover):
    if not is_cover(tree, cover):
        raise NoCover("this is no cover of the tree")
    rows = rows_of(tree)
    return "/".join([",".join(pieces_of(tree, cover)), turns_of(rows[1]), turns_of(rows[2])])


def pressed_text(tree):
    return press_by(tree, least_cover(tree)[1])


def turns_of(truths):
    turns = [0]
    ahead = True
    for truth in truths:
        if truth == ahead:
            turns[-1] += 1
        else:
            turns.append(1)
        ahead = truth
    return ",".join([str(many) for many in turns])


def rows_unpressed(text):
    if not isinstance(text, str) or text.count("/") != 2:
        raise NoText("this is no pressed tree")
    parts = text.split("/")
    labels = [labels_by(piece) for piece in parts[0].split(",")]
    rows = ("".join(labels), truths_by(parts[1]), truths_by(parts[2]))
    # The parts may be read loosely, for only what is written so again is let by.
    if not is_rows(rows) or not is_pressed(tree_of(rows), labels, text):
        raise NoText("this is no pressed tree")
    return rows


def is_pressed(tree, labels, text):
    cover = cover_by(tree, labels)
    return is_cover(tree, cover) and press_by(tree, cover) == text


def cover_by(tree, labels):
    contexts = contexts_of(tree)
    cover = []
    first = 0
    for piece in labels:
        behind = first + len(piece)
        # The longest beginning of all these has the fewest rows: these
        # alone, if there is a beginning of which they are all.
        alike = many_alike(contexts[first], contexts[behind - 1])
        cover.append(contexts[first][:alike])
        first = behind
    return tuple(cover)


def labels_by(piece):
    parts = piece.split(" ")
    many = many_by(parts[0])
    if many == 0 or len(parts) not in (2, 3) or parts[1] == "":
        raise NoText("this is no piece")
    if len(parts) == 2:
        return parts[1] * many
    return labels_by_number(many, parts[1], parts[2])


def labels_by_number(many, letters, figures):
    base = len(letters)
    if not is_figures(figures) or len(figures) != figures_for(base, many):
        raise NoText("this number doesn't fit the letters")
    number = int(figures)
    labels = []
    for k in range(many):
        labels.append(letters[number % base])
        number = number // base
    return "".join(labels[::-1])


def truths_by(text):
    truths = []
    truth = True
    for many in [many_by(part) for part in text.split(",")]:
        truths.extend([truth] * many)
        truth = not truth
    return tuple(truths)


def many_by(figures):
    # Of sixty rows no number has three figures.
    if not is_figures(figures) or len(figures) > 2:
        raise NoText("this is no number of rows")
    return int(figures)
