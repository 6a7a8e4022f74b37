"""Point 48 and the interface of pointliars."""

import random
import unittest

from papersorliars.books import Book
from papersorliars.players import Liar
from papersorliars.pointliars import PointLiar
from tests.helpers import add, broken, chain_book, full_book, plain, raised, sample_books, told
from tests.least import branched, least_table

BOOK = Book(2, [((1, 1),), ((1, 0), (2, 1)), ((2, 0),)])


def state(liar):
    return (liar.book, liar.stand, liar.asked, liar.broken, liar.bound, liar.points)


def number(book, bound, table, stand):
    """The number of the stand in the table of point 45."""
    if broken(book, stand):
        return 0
    return bound + 1 if table[stand] is None else min(table[stand], bound + 1)


def answer_of(book, bound, table, stand, name, choice):
    """The answer of point 48 and the points that it adds."""
    now = number(book, bound, table, stand)
    for answer in (0, 1):
        if number(book, bound, table, add(stand, name, answer)) >= now:
            return answer, 0
    return choice, 1


def liars(books):
    """Each book with the bounds for which it has a liar, and the table of its least branching numbers."""
    for book in books:
        table = least_table(book, 0, branched)
        bounds = [0, 1, 3, 10 ** 40] if table[()] is None else range(table[()])
        for bound in bounds:
            yield book, bound, table


class Liars(unittest.TestCase):

    def test_an_ordinary_liar(self):
        liar = PointLiar(full_book(2), 1)
        self.assertIsInstance(liar, Liar)
        self.assertEqual(state(liar), (full_book(2), (), 0, (), 1, 0))
        self.assertEqual(liar(2, 1), 1)
        self.assertEqual(state(liar), (full_book(2), ((2, 1),), 1, (), 1, 1))
        self.assertEqual(liar(1, 0), 0)
        self.assertEqual(state(liar), (full_book(2), ((1, 0), (2, 1)), 2, (2,), 1, 2))

    def test_answers_that_are_not_left_to_the_asker(self):
        for choice in (0, 1):
            liar = PointLiar(BOOK, 0)
            self.assertEqual(liar(1, choice), 1)
            self.assertEqual(state(liar), (BOOK, ((1, 1),), 1, (), 0, 0))
            self.assertEqual(liar(2, choice), choice)
            self.assertEqual((liar.points, len(liar.broken), liar.asked), (1, 1, 2))
            liar = PointLiar(BOOK, 0)
            self.assertEqual((liar(2, choice), liar.points), (0, 0))

    def test_liars_that_do_not_exist(self):
        for bound in (1, 2, 10 ** 40):
            self.assertEqual(told(PointLiar, BOOK, bound), raised("NoLiar", bound))
        self.assertEqual(told(PointLiar, Book(0, [()]), 0), raised("NoLiar", 0))
        self.assertEqual(told(PointLiar, full_book(6), 6), raised("NoLiar", 6))
        self.assertEqual(PointLiar(full_book(6), 5).bound, 5)

    def test_too_many_names(self):
        for names in (7, 40):
            for book in (Book(names, []), Book(names, [()])):
                self.assertEqual(told(PointLiar, book, 0), raised("TooLarge", names, 6))

    def test_bad_names_change_nothing(self):
        liar = PointLiar(full_book(3), 1)
        liar(2, 1)
        before = state(liar)
        for name in (0, 2, 4, -1, 10 ** 40):
            for choice in (0, 1):
                self.assertEqual(told(liar, name, choice), raised("BadName", name))
                self.assertEqual(state(liar), before)
        self.assertEqual(told(PointLiar(Book(0, []), 3), 1, 0), raised("BadName", 1))

    def test_all_questions_in_some_orders(self):
        source = random.Random(91)
        for book, bound, table in liars(sample_books(92, 35) + [chain_book(5), full_book(4)]):
            for _ in range(6):
                liar = PointLiar(book, bound)
                stand, points = (), 0
                for count, name in enumerate(source.sample(range(1, book.names + 1), book.names), 1):
                    choice = source.randint(0, 1)
                    answer, more = answer_of(book, bound, table, stand, name, choice)
                    self.assertEqual(liar(name, choice), answer)
                    stand, points = add(stand, name, answer), points + more
                    self.assertEqual(state(liar), (book, stand, count, book.breaks(stand), bound, points))
                    self.assertTrue(plain(liar.stand))
                    if liar.broken:
                        self.assertGreater(liar.points, bound)

    def test_held_answers_between_the_questions(self):
        source = random.Random(93)
        for book, bound, table in liars(sample_books(94, 35) + [full_book(4)]):
            for _ in range(6):
                liar = PointLiar(book, bound)
                stand, points = (), 0
                for count, name in enumerate(source.sample(range(1, book.names + 1), book.names), 1):
                    choice = source.randint(0, 1)
                    if source.random() < 0.5:
                        answer, more = choice, 0
                        self.assertEqual(liar.hold(name, choice), choice)
                    else:
                        answer, more = answer_of(book, bound, table, stand, name, choice)
                        self.assertEqual(liar(name, choice), answer)
                    stand, points = add(stand, name, answer), points + more
                    self.assertEqual(state(liar), (book, stand, count, book.breaks(stand), bound, points))

    def test_a_broken_stand_is_answered_by_0(self):
        liar = PointLiar(full_book(3), 2)
        for name in (1, 2):
            self.assertEqual((liar(name, 1), liar.points), (1, name))
        liar = PointLiar(BOOK, 0)
        liar.hold(1, 0)
        self.assertEqual(liar.broken, (1,))
        self.assertEqual((liar(2, 1), liar.points, liar.asked), (0, 0, 2))

    def test_no_bound_on_the_questions(self):
        book = Book(6, [((1, 0),)])
        liar = PointLiar(book, 0)
        self.assertEqual([liar(name, 1) for name in range(1, 7)], [0] * 6)
        self.assertEqual((liar.asked, liar.points, liar.broken), (6, 0, ()))

    def test_two_liars_do_not_share_what_they_hold(self):
        first, second = PointLiar(full_book(3), 2), PointLiar(full_book(3), 2)
        first(1, 1)
        self.assertEqual(state(second), (full_book(3), (), 0, (), 2, 0))
        self.assertEqual(first.points, 1)

    def test_liars_after_liars_of_other_books(self):
        turned = Book(2, [((1, 0),), ((1, 1), (2, 0)), ((2, 1),)])
        for book, expected in ((BOOK, 1), (turned, 0), (BOOK, 1), (turned, 0)):
            self.assertEqual(PointLiar(book, 0)(1, 1 - expected), expected)


if __name__ == "__main__":
    unittest.main()
