"""A desk: answers lines of words about one tree, whose leaves come and go."""

from upwords.errors import NoLine
from upwords.fitting import whole_at
from upwords.folds import folded_net
from upwords.keeper import Keeper
from upwords.kinds import is_letters, is_written_number
from upwords.nets import unfolded_tree
from upwords.nettexts import read_net, show_net
from upwords.press import pressed_text
from upwords.sought import places_of
from upwords.unlike import nth_word
from upwords.written import read_tree, show_tree

MOST_LETTERS = 60
MOST_FIGURES = 4

# What stands behind the first word of each line: N a number, W a word that is sought, X any signs.
FORMS = {
    "put": "NNX", "take": "N", "back": "", "show": "", "fold": "", "press": "", "order": "", "read": "W",
    "fit": "X", "many": "", "nth": "N"}


class Desk:

    def __init__(self):
        self.keeper = None

    def answer(self, line):
        if not isinstance(line, str):
            raise NoLine("this is no text")
        parts = line.partition(" ")
        if parts[1] != "" and parts[0] in ("tree", "net"):
            self.keeper = Keeper(tree_by(parts[0], parts[2]))
            return "ok"
        words = line.split(" ")
        if self.keeper is None or not is_line(words):
            raise NoLine("this is no line, or there is no tree yet")
        return answer_by(self.keeper, words)


def tree_by(kind, text):
    return read_tree(text) if kind == "tree" else unfolded_tree(read_net(text))


def is_line(words):
    form = FORMS.get(words[0])
    if form is None or len(words) != len(form) + 1:
        return False
    return all([is_word_for(kind, word) for kind, word in zip(form, words[1:])])


def is_word_for(kind, word):
    if kind == "N":
        return is_written_number(word, MOST_FIGURES)
    if kind == "W":
        return word == "-" or (is_letters(word) and 1 <= len(word) <= MOST_LETTERS)
    return word != ""


def answer_by(keeper, words):
    if words[0] in ("put", "take", "back"):
        return show_numbers(done_by(keeper, words))
    if words[0] in ("order", "read", "fit"):
        return show_numbers(places_by(keeper, words))
    return text_by(keeper, words)


def show_numbers(numbers):
    return " ".join([str(number) for number in numbers]) if numbers else "-"


def done_by(keeper, words):
    if words[0] == "put":
        return keeper.put(int(words[1]), int(words[2]), words[3])
    if words[0] == "take":
        return keeper.take(int(words[1]))
    return keeper.back()


def places_by(keeper, words):
    if words[0] == "order":
        return keeper.order_now()
    signs = "" if words[1] == "-" else words[1]
    if words[0] == "read":
        return places_of(keeper.tree_now(), signs)
    return whole_at(keeper.tree_now(), signs)


def text_by(keeper, words):
    if words[0] == "many":
        return str(keeper.many_now())
    tree = keeper.tree_now()
    if words[0] == "nth":
        return nth_word(tree, int(words[1]))
    if words[0] == "show":
        return show_tree(tree)
    if words[0] == "fold":
        return show_net(folded_net(tree))
    return pressed_text(tree)
