"""The unlike words that are read in a tree, each once, in the order of texts."""

from upwords.errors import NoNumber, NoWord
from upwords.kinds import is_number_below
from upwords.orders import alike_of, many_alike
from upwords.sought import count_read, places_of
from upwords.words import words_of


def unlike_words(tree):
    found = []
    for word, alike in zip(sorted(words_of(tree)), alike_of(tree)):
        # The beginnings that the word ahead has too stand there already.
        found.extend([word[:length] for length in range(alike + 1, len(word) + 1)])
    return found


def count_words(tree):
    return len(unlike_words(tree))


def nth_word(tree, k):
    unlike = unlike_words(tree)
    if not is_number_below(k, len(unlike)):
        raise NoNumber("there is no word with this number")
    return unlike[k]


def number_of(tree, word):
    unlike = unlike_words(tree)
    if word not in unlike:
        raise NoWord("there is no such word of one letter or more")
    return unlike.index(word)


def by_lengths(tree):
    lengths = [len(word) for word in unlike_words(tree)]
    return [lengths.count(length) for length in range(1, max(lengths) + 1)]


def most_read(tree, length):
    beginnings = sorted([word[:length] for word in words_of(tree) if len(word) >= length])
    if beginnings == []:
        return None
    # Of several max takes the first, and they stand in order.
    word = max(beginnings, key=lambda beginning: beginnings.count(beginning))
    return (word, beginnings.count(word))


def longest_again(tree):
    alike = alike_of(tree)
    longest = max(alike)
    if longest == 0:
        return ("", [])
    # Words that begin most alike stand side by side in the order.
    word = sorted(words_of(tree))[alike.index(longest)][:longest]
    return (word, places_of(tree, word))


def fronts_of(tree, word):
    words = words_if_read(tree, word)
    return tallied([other[0] for other in words if other[1:].startswith(word)])


def behinds_of(tree, word):
    words = words_if_read(tree, word)
    longer = [other for other in words if other.startswith(word) and len(other) > len(word)]
    return tallied([other[len(word)] for other in longer])


def words_if_read(tree, word):
    words = words_of(tree)
    if not isinstance(word, str) or count_read(words, word) == 0:
        raise NoWord("the word is read nowhere")
    return words


def tallied(letters):
    return [(letter, letters.count(letter)) for letter in sorted(set(letters))]


def closed_words(tree):
    words = sorted(words_of(tree))
    found = []
    for word in unlike_words(tree):
        reading = [other for other in words if other.startswith(word)]
        # A letter behind it is read at as many places just where all these
        # go on alike, and they do where the first and the last in order do.
        if many_alike(reading[0], reading[-1]) == len(word):
            found.append((word, len(reading)))
    return found
