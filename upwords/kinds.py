"""What several files ask of a thing before they trust it."""

LETTERS = "abcdefghijklmnopqrstuvwxyz"
FIGURES = "0123456789"


def is_whole(thing):
    # True and False count as int in Python, here they are no numbers.
    return isinstance(thing, int) and not isinstance(thing, bool)


def is_number_below(thing, behind):
    return is_whole(thing) and 0 <= thing < behind


def is_letters(thing):
    return isinstance(thing, str) and all([sign in LETTERS for sign in thing])


def is_letter(thing):
    return is_letters(thing) and len(thing) == 1


def is_figures(thing):
    return isinstance(thing, str) and thing != "" and all([sign in FIGURES for sign in thing])


def is_written_number(thing, most):
    # With at most so many figures, and none ahead that could be left out.
    return is_figures(thing) and len(thing) <= most and (thing == "0" or thing[0] != "0")


def is_rising(things):
    return all([things[k - 1] < things[k] for k in range(1, len(things))])
