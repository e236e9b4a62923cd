"""What fits a pattern in a tree, and marks that show that nothing does."""

from upwords.errors import NoNumber, NoWord
from upwords.kinds import is_number_below
from upwords.patterns import items_of
from upwords.words import words_of


def states_with(items, states):
    # Rising, with all to which one goes on without a letter.
    given = dict([(state, True) for state in states])
    found = []
    for state in range(len(items) + 1):
        if state in given or (found and found[-1] == state - 1 and items[state - 1][1]):
            found.append(state)
    return found


def states_by(items, states, letter):
    going = [state for state in states if state < len(items) and letter in items[state][0]]
    return [state if items[state][1] else state + 1 for state in going]


def lengths_fitting(items, word):
    # Of all beginnings of the word that fit, that of no letters too, rising.
    states = states_with(items, [0])
    lengths = [0] if len(items) in states else []
    for ahead, letter in enumerate(word):
        states = states_with(items, states_by(items, states, letter))
        if len(items) in states:
            lengths.append(ahead + 1)
    return lengths


def whole_at(tree, pattern):
    items = items_of(pattern)
    return [place for place, word in enumerate(words_of(tree)) if len(word) in lengths_fitting(items, word)]


def found_at(tree, pattern):
    items = items_of(pattern)
    found = []
    for place, word in enumerate(words_of(tree)):
        lengths = lengths_fitting(items, word)
        if lengths:
            found.append((place, lengths[0]))
    return found


def words_fitting(tree, pattern):
    items = items_of(pattern)
    found = []
    for word in words_of(tree):
        found.extend([word[:length] for length in lengths_fitting(items, word) if length > 0])
    return sorted(set(found))


def many_by(tree, pattern):
    return len(words_fitting(tree, pattern))


def word_by(tree, pattern, number):
    words = words_fitting(tree, pattern)
    if not is_number_below(number, len(words)):
        raise NoNumber("there is no word with this number that fits")
    return words[number]


def number_by(tree, pattern, word):
    words = words_fitting(tree, pattern)
    if not isinstance(word, str) or word not in words:
        raise NoWord("there is no such word of one letter or more that fits")
    return words.index(word)


def marks_of(tree, pattern):
    items = items_of(pattern)
    # What comes to each place from those beneath it, and the beginning that may be there too.
    coming = [[0] for label in tree[1]]
    marks = [()] * len(tree[1])
    for place in range(len(tree[1]) - 1, -1, -1):
        states = states_with(items, coming[place])
        marks[place] = tuple(states)
        if place > 0:
            coming[tree[0][place]].extend(states_by(items, states, tree[1][place]))
    return tuple(marks)


def marks_show(tree, pattern, thing):
    items = items_of(pattern)
    return is_marks(tree, items, thing) and is_never_done(tree, items, thing)


def is_marks(tree, items, thing):
    if not isinstance(thing, tuple) or len(thing) != len(tree[1]):
        return False
    if not all([is_states(items, part) for part in thing]):
        return False
    for place in range(1, len(thing)):
        above = thing[tree[0][place]]
        if not all([state in above for state in states_by(items, thing[place], tree[1][place])]):
            return False
    return True


def is_states(items, thing):
    if not isinstance(thing, tuple) or not all([is_number_below(part, len(items) + 1) for part in thing]):
        return False
    return 0 in thing and states_with(items, thing) == list(thing)


def is_never_done(tree, items, marks):
    behind_root = states_with(items, states_by(items, marks[0], tree[1][0]))
    return all([len(items) not in states for states in list(marks) + [behind_root]])
