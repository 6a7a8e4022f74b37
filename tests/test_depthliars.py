"""Points 15, 28 and 29 and the interface of depthliars."""

import random
import unittest

from papersorliars.books import Book
from papersorliars.depthliars import DepthLiar, play
from papersorliars.players import Liar
from tests.helpers import (
    add, broken, chain_book, free, full_book, leaf_ways, plain, raised, random_tree, sample_books, told,
)
from tests.least import deeper, least_table

BOOK = Book(2, [((1, 1),), ((1, 0), (2, 1)), ((2, 0),)])


def state(liar):
    return (liar.book, liar.stand, liar.asked, liar.broken, liar.bound)


def liars(books):
    """Each book with the bounds for which it has a liar, and the table of its least depths."""
    for book in books:
        table = least_table(book, 0, deeper)
        bounds = [0, 1, 2, 3, 10 ** 40] if table[()] is None else range(table[()])
        for bound in bounds:
            yield book, bound, table


def answer_of(book, bound, table, stand, name):
    """The answer of point 28."""
    stand = add(stand, name, 0)
    safe = len(stand) <= bound and not broken(book, stand)
    return 0 if safe and (table[stand] is None or table[stand] > bound - len(stand)) else 1


class Liars(unittest.TestCase):

    def test_an_ordinary_liar(self):
        liar = DepthLiar(BOOK, 1)
        self.assertIsInstance(liar, Liar)
        self.assertEqual(state(liar), (BOOK, (), 0, (), 1))
        self.assertEqual(liar(1), 1)
        self.assertEqual(state(liar), (BOOK, ((1, 1),), 1, (), 1))
        self.assertEqual(told(liar, 2), raised("NoLiar", 1))
        self.assertEqual(state(liar), (BOOK, ((1, 1),), 1, (), 1))
        liar = DepthLiar(BOOK, 1)
        self.assertEqual((liar(2), liar.stand, liar.asked), (0, ((2, 0),), 1))

    def test_liars_that_do_not_exist(self):
        for bound in (2, 3, 10 ** 40):
            self.assertEqual(told(DepthLiar, BOOK, bound), raised("NoLiar", bound))
        self.assertEqual(told(DepthLiar, Book(0, [()]), 0), raised("NoLiar", 0))
        self.assertEqual(told(DepthLiar, Book(3, [()]), 5), raised("NoLiar", 5))
        self.assertEqual(told(DepthLiar, full_book(6), 6), raised("NoLiar", 6))

    def test_six_names(self):
        liar = DepthLiar(full_book(6), 5)
        self.assertEqual([liar(name) for name in (6, 1, 5, 2, 4)], [0] * 5)
        self.assertEqual(told(liar, 3), raised("NoLiar", 5))
        self.assertEqual((liar.stand, liar.broken), (((1, 0), (2, 0), (4, 0), (5, 0), (6, 0)), ()))

    def test_too_many_names(self):
        for names in (7, 40):
            for book in (Book(names, []), Book(names, [()])):
                self.assertEqual(told(DepthLiar, book, 0), raised("TooLarge", names, 6))

    def test_the_bound_0(self):
        liar = DepthLiar(BOOK, 0)
        self.assertEqual(told(liar, 1), raised("NoLiar", 0))
        self.assertEqual(told(liar, 3), raised("BadName", 3))
        self.assertEqual(state(liar), (BOOK, (), 0, (), 0))

    def test_bad_names_go_ahead_of_questions_after_the_bound(self):
        liar = DepthLiar(BOOK, 1)
        for name in (0, 3, -1, 10 ** 40):
            self.assertEqual(told(liar, name), raised("BadName", name))
        self.assertEqual(state(liar), (BOOK, (), 0, (), 1))
        liar(2)
        for name in (0, 2, 3, -1):
            self.assertEqual(told(liar, name), raised("BadName", name))
        self.assertEqual(told(liar, 1), raised("NoLiar", 1))
        self.assertEqual(state(liar), (BOOK, ((2, 0),), 1, (), 1))

    def test_books_without_names(self):
        liar = DepthLiar(Book(0, []), 10 ** 40)
        self.assertEqual(told(liar, 1), raised("BadName", 1))
        self.assertEqual((liar.bound, liar.stand, liar.asked), (10 ** 40, (), 0))

    def test_all_questions_in_some_orders(self):
        source = random.Random(41)
        for book, bound, table in liars(sample_books(42, 30) + [chain_book(5), full_book(4)]):
            for _ in range(6):
                liar = DepthLiar(book, bound)
                stand = ()
                names = source.sample(range(1, book.names + 1), book.names)
                for count, name in enumerate(names):
                    if count >= bound:
                        self.assertEqual(told(liar, name), raised("NoLiar", bound))
                    else:
                        answer = answer_of(book, bound, table, stand, name)
                        self.assertEqual(liar(name), answer)
                        stand = add(stand, name, answer)
                        self.assertEqual(liar.broken, ())
                    self.assertEqual(state(liar), (book, stand, min(count + 1, bound), (), bound))
                    self.assertTrue(plain(liar.stand))

    def test_held_answers_between_the_questions(self):
        source = random.Random(43)
        for book, bound, table in liars(sample_books(44, 30) + [chain_book(4)]):
            for _ in range(6):
                liar = DepthLiar(book, bound)
                stand = ()
                for count, name in enumerate(source.sample(range(1, book.names + 1), book.names)):
                    if source.random() < 0.5:
                        answer = source.randint(0, 1)
                        self.assertEqual(liar.hold(name, answer), answer)
                    elif count >= bound:
                        self.assertEqual(told(liar, name), raised("NoLiar", bound))
                        break
                    else:
                        answer = answer_of(book, bound, table, stand, name)
                        self.assertEqual(liar(name), answer)
                    stand = add(stand, name, answer)
                    self.assertEqual(state(liar), (book, stand, count + 1, book.breaks(stand), bound))

    def test_a_held_answer_counts_as_a_question(self):
        liar = DepthLiar(full_book(3), 2)
        liar.hold(2, 1)
        liar(3)
        self.assertEqual(told(liar, 1), raised("NoLiar", 2))
        liar = DepthLiar(full_book(3), 2)
        for name in (1, 2, 3):
            liar.hold(name, 0)
        self.assertEqual((liar.asked, liar.broken), (3, (7,)))

    def test_two_liars_do_not_share_what_they_hold(self):
        first, second = DepthLiar(full_book(3), 2), DepthLiar(full_book(3), 2)
        first(1)
        self.assertEqual((second.stand, second.asked), ((), 0))
        self.assertEqual(first.asked, 1)

    def test_liars_after_liars_of_other_books(self):
        turned = Book(2, [((1, 0),), ((1, 1), (2, 0)), ((2, 1),)])
        for book, expected in ((BOOK, 1), (turned, 0), (BOOK, 1), (turned, 0)):
            self.assertEqual(DepthLiar(book, 1)(1), expected)


class Play(unittest.TestCase):

    def test_a_leaf_asks_nothing(self):
        self.assertEqual(list(play(("leaf", 3), DepthLiar(BOOK, 0))), [])

    def test_an_ordinary_play(self):
        tree = ("ask", 2, ("leaf", 0), ("ask", 1, ("leaf", 1), ("leaf", 2)))
        liar = DepthLiar(full_book(3), 2)
        answers = list(play(tree, liar))
        self.assertEqual(answers, [(2, 0)])
        tree = ("ask", 2, ("ask", 3, ("leaf", 0), ("leaf", 0)), ("leaf", 0))
        liar = DepthLiar(full_book(3), 2)
        self.assertEqual(list(play(tree, liar)), [(2, 0), (3, 0)])
        self.assertEqual((liar.stand, liar.asked), (((2, 0), (3, 0)), 2))
        self.assertTrue(plain(tuple(play(tree, DepthLiar(full_book(3), 2)))))

    def test_each_pair_comes_before_the_next_question(self):
        for answers in ((0, 0, 0), (1, 0, 1), (0, 1, 1), (1, 1, 0)):
            tree = ("leaf", 0)
            for name, answer in list(enumerate(answers, 1))[::-1]:
                tree = ("ask", name, tree, ("leaf", 9)) if answer == 0 else ("ask", name, ("leaf", 9), tree)
            asked = []

            def liar(name):
                asked.append(name)
                return answers[name - 1]

            pairs = play(tree, liar)
            self.assertEqual(asked, [])
            for count, answer in enumerate(answers, 1):
                self.assertEqual(next(pairs), (count, answer))
                self.assertEqual(asked, list(range(1, count + 1)))
            self.assertEqual(list(pairs), [])
            self.assertEqual(asked, [1, 2, 3])

    def test_the_tree_is_not_checked(self):
        tree = ("ask", -5, ("leaf", -1), ("ask", -5, ("ask", 99, ("leaf", 0), ("leaf", 0)), ("leaf", 0)))
        answers = [1, 0, 1]
        self.assertEqual(list(play(tree, lambda name: answers.pop(0))), [(-5, 1), (-5, 0), (99, 1)])

    def test_errors_of_the_liar_come_through(self):
        tree = ("ask", 1, ("leaf", 0), ("ask", 2, ("leaf", 0), ("leaf", 1)))
        liar = DepthLiar(BOOK, 1)
        pairs = play(tree, liar)
        self.assertEqual(next(pairs), (1, 1))
        self.assertEqual(told(next, pairs), raised("NoLiar", 1))
        self.assertEqual(state(liar), (BOOK, ((1, 1),), 1, (), 1))
        tree = ("ask", 1, ("leaf", 0), ("ask", 1, ("leaf", 0), ("leaf", 1)))
        self.assertEqual(told(list, play(tree, DepthLiar(BOOK, 1))), raised("BadName", 1))
        liar = DepthLiar(BOOK, 1)
        liar.hold(1, 0)
        self.assertEqual(told(list, play(tree, liar)), raised("BadName", 1))

        def strange(name):
            raise KeyError(name)

        with self.assertRaises(KeyError):
            list(play(tree, strange))

    def test_a_liar_is_not_caught_within_its_bound(self):
        source = random.Random(45)
        for book, bound, table in liars(sample_books(46, 25) + [chain_book(5), full_book(4)]):
            tree = random_tree(source, book)
            if tree is None:
                continue
            liar = DepthLiar(book, bound)
            pairs = []
            try:
                for pair in play(tree, liar):
                    pairs.append(pair)
                self.fail("the liar was caught")
            except ValueError as error:
                self.assertEqual(error.__class__.__name__, "NoLiar")
            self.assertEqual((len(pairs), liar.asked, liar.broken), (bound, bound, ()))
            self.assertEqual(liar.stand, tuple(sorted(pairs)))

    def test_a_play_ends_at_a_leaf_of_its_way(self):
        source = random.Random(47)
        for book in sample_books(48, 25):
            tree = random_tree(source, book)
            if tree is None:
                continue
            answers = {name: source.randint(0, 1) for name in free(book, ())}
            pairs = list(play(tree, lambda name: answers[name]))
            self.assertIn(tuple(sorted(pairs)), [way for way, _ in leaf_ways(tree)])

    def test_a_long_play(self):
        tree = ("leaf", 0)
        for name in range(99, 0, -1):
            tree = ("ask", name, ("leaf", 0), tree)
        self.assertEqual(list(play(tree, lambda name: 1)), [(name, 1) for name in range(1, 100)])


if __name__ == "__main__":
    unittest.main()
