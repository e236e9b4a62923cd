"""Promises [1] to [4] over the whole program: what is told in several ways is told alike, whatever leaves came and went."""

import unittest

from tests import naive, samples
from tests.asking import Asking
from upwords.covers import floors_of, floors_show, least_cover
from upwords.desk import Desk
from upwords.fitting import found_at, many_by, marks_of, marks_show, number_by, whole_at, word_by
from upwords.folds import folded_anew, folded_net, parted_at
from upwords.keeper import Keeper
from upwords.nets import count_in, unfolded_tree
from upwords.nettexts import read_net, show_net
from upwords.papers import classes_shown, many_paper, many_shown, nowhere_paper, nowhere_shown
from upwords.press import pressed_text, rows_unpressed
from upwords.reader import Reader
from upwords.rows import rows_of, tree_of
from upwords.sought import how_many, places_of, stretch_of
from upwords.tries import trie_of, ways_down
from upwords.unlike import count_words, nth_word, number_of
from upwords.words import classes_of
from upwords.written import read_tree, show_tree


def shaken(tree, seed):
    """A keeper behind some comings and goings of leaves."""
    numbers = samples.drawn(seed)
    keeper = Keeper(tree)
    for k in range(8):
        ups, labels = keeper.tree_now()
        turn = next(numbers) % 4
        place = next(numbers) % len(labels)
        if turn == 0 and keeper.deeds_now():
            keeper.back()
        elif turn == 1 and place > 0 and place not in ups:
            keeper.take(place)
        elif len(labels) < 60:
            keeper.put(place, next(numbers) % (ups.count(place) + 1), "abz"[next(numbers) % 3])
    return keeper


class Whole(Asking):

    def keepers(self):
        for seed, tree in enumerate(samples.few_trees()[::3] + samples.small_trees(4)[::40]):
            yield Keeper(tree)
            yield shaken(tree, seed)

    def test_a_word_s_places_are_as_many_in_every_way(self):
        for keeper in self.keepers():
            tree = keeper.tree_now()
            reader, net = Reader(rows_of(tree), 7), folded_net(tree)
            for word in samples.words_about(naive.words(tree))[::6]:
                many = len(naive.read_at(tree, word))
                first, behind = stretch_of(tree, word)
                self.assertEqual(behind - first, many)
                self.assertEqual(how_many(tree, word), many)
                self.assertEqual(len(places_of(tree, word)), many)
                self.assertEqual(reader.seek(word)[0], many)
                self.assertEqual(len(reader.rows_read(word)), many)
                self.assertEqual(count_in(net, word), many)
                self.assertEqual(keeper.count_now(word), many)
                if len(word) <= 40:
                    self.assertEqual(found_at(tree, word), [(place, len(word)) for place in places_of(tree, word)])
                if len(word) <= 38:
                    self.assertEqual(len(whole_at(tree, word + ".*")), many)
                    self.assertIs(marks_show(tree, word, marks_of(tree, word)), many == 0)
                paper = nowhere_paper(tree, word)
                self.assertIs(paper is not None, many == 0)
                self.assertIs(nowhere_shown(tree, word, paper), many == 0)

    def test_unlike_words_are_as_many_in_every_way(self):
        for keeper in self.keepers():
            tree = keeper.tree_now()
            many = len(naive.unlike(tree))
            self.assertEqual(count_words(tree), many)
            self.assertEqual(many_by(tree, ".*"), many)
            self.assertEqual(many_shown(tree, many_paper(tree)), many)
            self.assertEqual(keeper.many_now(), many)
            for k in {0, many // 3, many - 1}:
                word = nth_word(tree, k)
                self.assertEqual((word_by(tree, ".*", k), number_of(tree, word), number_by(tree, ".*", word)), (word, k, k))
            with self.assertRaises(ValueError):
                nth_word(tree, many)
            self.assertIs(classes_shown(tree, tuple(classes_of(tree, 60))), True)

    def test_all_leads_back_to_the_tree(self):
        for keeper in self.keepers():
            tree = keeper.tree_now()
            self.assertEqual(read_tree(show_tree(tree)), tree)
            self.assertEqual(tree_of(rows_of(tree)), tree)
            self.assertEqual(tree_of(keeper.rows_now()), tree)
            self.assertEqual(tree_of(rows_unpressed(pressed_text(tree))), tree)
            net = folded_net(tree)
            self.assertEqual(unfolded_tree(net), tree)
            self.assertEqual(unfolded_tree(read_net(show_net(net))), tree)
            self.assertEqual(folded_anew(net), net)
            self.assertIsNone(parted_at(net, net))
            trie, places = trie_of(tree)
            self.assertEqual([ways_down(trie)[place] for place in places], ways_down(tree))

    def test_no_cover_is_cheaper_behind_comings_and_goings(self):
        for keeper in list(self.keepers())[::6]:
            tree = keeper.tree_now()
            price, cover = least_cover(tree)
            self.assertIs(floors_show(tree, price, floors_of(tree)), True)
            self.assertIs(floors_show(tree, price + 1, floors_of(tree)), False)

    def test_a_desk_s_texts_lead_back(self):
        for seed, tree in enumerate(samples.few_trees()[::4]):
            desk, other = Desk(), Desk()
            desk.answer("tree " + show_tree(shaken(tree, seed).tree_now()))
            for k in range(3):
                self.assertEqual(other.answer("tree " + desk.answer("show")), "ok")
                self.assertEqual(other.answer("order"), desk.answer("order"))
                self.assertEqual(other.answer("net " + desk.answer("fold")), "ok")
                for line in ("show", "fold", "press", "order", "many", "read a", "fit .*a.*"):
                    self.assertEqual(other.answer(line), desk.answer(line))
                self.assertEqual(tree_of(rows_unpressed(desk.answer("press"))), read_tree(desk.answer("show")))
                if len(read_tree(desk.answer("show"))[1]) < 60:
                    desk.answer("put 0 0 a")

    def test_nothing_done_later_changes_what_was_told(self):
        keeper = Keeper(read_tree("a(bc(d))"))
        told = (keeper.tree_now(), keeper.order_now(), keeper.rows_now())
        paper = many_paper(keeper.tree_now())
        keeper.put(0, 0, "z")
        keeper.take(2)
        self.assertEqual(told, (((-1, 0, 0, 2), "abcd"), [0, 1, 2, 3], rows_of(((-1, 0, 0, 2), "abcd"))))
        self.assertEqual(paper, many_paper(told[0]))


if __name__ == "__main__":
    unittest.main()
