"""What several files ask of a thing before they trust it."""

LETTERS = "abcdefghijklmnopqrstuvwxyz"


def is_whole(thing):
    # True and False count as int in Python, here they are no numbers.
    return isinstance(thing, int) and not isinstance(thing, bool)


def is_letters(thing):
    return isinstance(thing, str) and all([sign in LETTERS for sign in thing])
