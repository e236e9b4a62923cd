"""Patterns: items that take letters, and how a word's letters are parted to them."""

from upwords.errors import NoPattern
from upwords.kinds import LETTERS, is_letters, is_rising

MOST_SIGNS = 40


def is_pattern(thing):
    try:
        items_of(thing)
    except NoPattern:
        return False
    return True


def items_of(pattern):
    # Each item as a pair: the letters that it takes, and whether it takes any many.
    if not isinstance(pattern, str) or len(pattern) > MOST_SIGNS:
        raise NoPattern("this is no text of so few signs")
    items = []
    left = pattern
    while left != "":
        part = part_ahead(left)
        left = left[len(part):]
        starred = left.startswith("*")
        if starred:
            left = left[1:]
        items.append((letters_by(part), starred))
    return items


def part_ahead(text):
    if not text.startswith("["):
        return text[0]
    # Of a bracket left open this is all that is left, and no item.
    halves = text.partition("]")
    return halves[0] + halves[1]


def letters_by(part):
    if part == ".":
        return LETTERS
    # Of a bracket that was never opened no letters are left.
    letters = part[1:-1] if part.endswith("]") else part
    if letters == "" or not is_letters(letters) or not is_rising(letters):
        raise NoPattern("this is no item")
    return letters


def shares_of(pattern, word):
    items = items_of(pattern)
    fits = fits_behind(items, word)
    if not fits[0][0]:
        return None
    shares = []
    at = 0
    for done, item in enumerate(items):
        # The nearest letter from which the other items fit the rest: what lies
        # ahead of it the item takes, for it takes all up to some such letter.
        behind = fits[done + 1].index(True, at if item[1] else at + 1)
        shares.append(behind - at)
        at = behind
    return tuple(shares)


def fits_behind(items, word):
    # By how many items are done and letters are taken: whether the other letters fit the other items.
    fits = [[False] * len(word) + [True]]
    for item in reversed(items):
        fits.append(fits_ahead(item, word, fits[-1]))
    return fits[::-1]


def fits_ahead(item, word, behind):
    fits = [False] * len(behind)
    for at in range(len(word), -1, -1):
        is_taken = at < len(word) and word[at] in item[0]
        if item[1]:
            fits[at] = behind[at] or (is_taken and fits[at + 1])
        else:
            fits[at] = is_taken and behind[at + 1]
    return fits
