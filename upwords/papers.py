"""Papers that show what was told of a tree, and judges of them, whoever wrote them."""

from upwords.kinds import is_number_below, is_whole
from upwords.orders import many_alike
from upwords.sought import how_many
from upwords.trees import MOST_PLACES, above_of
from upwords.words import classes_of, word_of, words_of


def classes_shown(tree, thing):
    if not isinstance(thing, tuple) or len(thing) != len(tree[1]) or not all([is_whole(part) for part in thing]):
        return False
    pairs = [(letter, -1 if up == -1 else thing[up]) for letter, up in zip(tree[1], tree[0])]
    unlike = sorted(set(pairs))
    # The first pair has 0, the next one 1 and so on: nothing else is in
    # their order and has no gap.
    return [unlike.index(pair) for pair in pairs] == list(thing)


def told_classes(tree):
    return tuple(classes_of(tree, MOST_PLACES))


def nowhere_paper(tree, word):
    if how_many(tree, word) > 0:
        return None
    classes = told_classes(tree)
    # So many classes have lesser words, so this is the first one with a greater word.
    behind = len(set([other for other in words_of(tree) if other < word]))
    return (classes, first_of(classes, behind - 1), first_of(classes, behind))


def first_of(classes, number):
    return classes.index(number) if number in classes else None


def nowhere_shown(tree, word, thing):
    if not isinstance(thing, tuple) or len(thing) != 3 or not classes_shown(tree, thing[0]):
        return False
    if not is_below(tree, word, thing[1]) or not is_above(tree, word, thing[2]):
        return False
    return are_beside(thing[0], thing[1], thing[2])


def is_below(tree, word, thing):
    return thing is None or (is_number_below(thing, len(tree[1])) and word_of(tree, thing) < word)


def is_above(tree, word, thing):
    if thing is None:
        return True
    if not is_number_below(thing, len(tree[1])):
        return False
    other = word_of(tree, thing)
    return other > word and not other.startswith(word)


def are_beside(classes, below, above):
    # None stands beyond all classes, at its own end of them.
    lesser = -1 if below is None else classes[below]
    greater = max(classes) + 1 if above is None else classes[above]
    return lesser + 1 == greater


def many_paper(tree):
    words = sorted(set(words_of(tree)))
    alikes = [many_alike(words[number - 1], words[number]) for number in range(1, len(words))]
    return (told_classes(tree), tuple(alikes))


def many_shown(tree, thing):
    if not isinstance(thing, tuple) or len(thing) != 2 or not classes_shown(tree, thing[0]):
        return None
    if not are_alikes(tree, thing[0], thing[1]):
        return None
    return sum([len(word) for word in sorted(set(words_of(tree)))]) - sum(thing[1])


def are_alikes(tree, classes, thing):
    # A place of each class: which one doesn't matter, for their words are alike.
    places = [classes.index(number) for number in range(max(classes) + 1)]
    if not isinstance(thing, tuple) or len(thing) != len(places) - 1 or not all([is_whole(part) for part in thing]):
        return False
    asked = [alike_by(tree, classes, thing, places[k], places[k + 1]) for k in range(len(thing))]
    return asked == list(thing)


def alike_by(tree, classes, alikes, ahead, place):
    if tree[1][ahead] != tree[1][place]:
        return 0
    if ahead == 0:
        return 1
    # Class 0 has none, so that of class k stands at k - 1.
    return 1 + min(alikes[classes[above_of(tree, ahead)]:classes[above_of(tree, place)]])
