"""Patterns, and what is none, that the tests ask about."""

import itertools

from tests.samples import ALL_LETTERS, drawn, nested, things

PATTERNS = ("", "a", "z", ".", "..", "...", "a*", ".*", "[a]", "[ab]", "[ab]*", "[az]*", "a.*", ".*a", ".*b", ".*z", ".*q",
            "a*b*a*", "ba*", "b[ab]*a", ".b.*", "[bcd].", "a*a", "aa*", "a*a*", "a*b*", ".*.*", "[ab]*[bc]*", "[a]*b",
            ".*ab.*", ".*a.", "[abcdefghijklmnopqrstuvwxyz]", "." * 40, "a" * 40, "a*" * 20, ".*" * 20, "." * 20 + "a*" * 10,
            "[ab]*" * 8, "[" + ALL_LETTERS + "]*" + "z" * 11)

# Right ones with something otherwise, and each not far from being a pattern.
NO_PATTERNS = ("*", "**", "*a", "a**", ".**", "[a]**", "a***", "a**b", "[]", "[]*", "a[]", "[", "]", "[a", "a]", "a[", "[a*",
               "[a*]", "[.]", "[a.]", "[ba]", "[aa]", "[abb]", "[acb]", "[a b]", "[a,b]", "[a-z]", "[^a]", "[[a]", "[a]]",
               "[[a]]", "[A]", "[aB]", "A", "aA", "a b", " ", " a", "a ", "\n", "a\n", "\na", "[\n]", "a+", "a?", "(a)", "a|b",
               "^a", "a$", "\\a", "\\.", "0", "a1", "-", "_", "~", "a{2}", "#", "." * 41, "a" * 41, "a*" * 20 + "a", "." * 4000,
               "[a]" * 14, "[" + ALL_LETTERS + "]" + "a" * 13, "[" + "a" * 38 + "]", "[" * 40, "*" * 40, "[a][", "[a][]",
               "[a]b]")


def is_pattern_of(text):
    """By its letters, gone through sign by sign."""
    within, inner, may_star = False, "", False
    for sign in text:
        if within and sign == "]":
            if inner == "" or list(inner) != sorted(set(inner)):
                return False
            within, may_star = False, True
        elif within:
            if sign not in ALL_LETTERS:
                return False
            inner += sign
        elif sign == "[":
            within, inner, may_star = True, "", False
        elif sign == "*":
            if not may_star:
                return False
            may_star = False
        elif sign == "." or sign in ALL_LETTERS:
            may_star = True
        else:
            return False
    return not within and len(text) <= 40


def all_texts_of(signs, longest):
    for length in range(longest + 1):
        for chosen in itertools.product(signs, repeat=length):
            yield "".join(chosen)


def any_pattern(seed, many, letters):
    """Of at most so many signs."""
    numbers = drawn(seed)
    text = ""
    while True:
        turn = next(numbers) % 8
        if turn < 4:
            item = letters[next(numbers) % len(letters)]
        elif turn < 6:
            item = "."
        else:
            item = "[" + "".join(sorted({letters[next(numbers) % len(letters)] for k in range(3)})) + "]"
        item += "*" if next(numbers) % 3 == 0 else ""
        if len(text + item) > many:
            return text
        text += item


def patterns_about(words):
    """Such as fit some of these words, whole or in part, and such as nearly do."""
    found = dict.fromkeys(PATTERNS)
    for word in words[:1] + words[len(words) // 2:][:1] + words[-1:]:
        begun = word[:40]
        half = begun[:len(begun) // 2]
        for text in (begun, half, half + ".*", ".*" + begun[-1], "." * len(begun), half[:38] + ".*", begun[:-1] + "z",
                     begun[:-1] + ".", "".join(letter + "*" for letter in dict.fromkeys(begun))[:40].rstrip("*"),
                     "[" + "".join(sorted(set(begun))) + "]*"):
            if is_pattern_of(text):
                found[text] = None
    return list(found)


def no_patterns():
    """Of anything, what is none."""
    return list(NO_PATTERNS) + [thing for thing in things()] + [
        ["a"], ("a",), {"a": "b"}, [], b"a*", 0, 1, nested(8), ("a", "b"), [["."]]]
