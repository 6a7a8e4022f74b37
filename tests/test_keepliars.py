"""Points 15, 63 and 64 and the interface of keepliars."""

import random
import unittest

from papersorliars.books import Book
from papersorliars.keepliars import KeepLiar
from papersorliars.kept import keep_liar
from papersorliars.players import Liar
from tests.helpers import add, chain_book, full_book, plain, raised, sample_books, told

BOOK = Book(2, [((1, 0), (2, 1)), ((1, 1),), ((2, 0),)])


def state(liar):
    return (liar.book, liar.stand, liar.asked, liar.broken, liar.bound)


def liars(books):
    """Each book with the bounds for which it has a liar, and the greatest object."""
    for book in books:
        for bound in (0, 1, 2, 3, 10 ** 40):
            stands = keep_liar(book, bound)
            if stands is not None:
                yield book, bound, stands


class Liars(unittest.TestCase):

    def test_an_ordinary_liar(self):
        liar = KeepLiar(BOOK, 0)
        self.assertIsInstance(liar, Liar)
        self.assertEqual(state(liar), (BOOK, (), 0, (), 0))
        self.assertEqual(liar(1), 1)
        self.assertEqual(state(liar), (BOOK, ((1, 1),), 1, (), 0))
        self.assertEqual(told(liar, 2), raised("NoLiar", 0))
        self.assertEqual(state(liar), (BOOK, ((1, 1),), 1, (), 0))
        self.assertIsNone(liar.forget(1))
        self.assertEqual(state(liar), (BOOK, (), 1, (), 0))
        self.assertEqual((liar(2), liar.stand, liar.asked), (0, ((2, 0),), 2))

    def test_liars_that_do_not_exist(self):
        for bound in (1, 2, 10 ** 40):
            self.assertEqual(told(KeepLiar, BOOK, bound), raised("NoLiar", bound))
        self.assertEqual(told(KeepLiar, Book(0, [()]), 0), raised("NoLiar", 0))
        self.assertEqual(told(KeepLiar, full_book(6), 5), raised("NoLiar", 5))

    def test_too_many_names(self):
        for names in (7, 40):
            for book in (Book(names, []), Book(names, [()])):
                self.assertEqual(told(KeepLiar, book, 0), raised("TooLarge", names, 6))

    def test_six_names(self):
        liar = KeepLiar(full_book(6), 4)
        self.assertEqual([liar(name) for name in (6, 1, 5, 2, 4)], [0] * 5)
        self.assertEqual(told(liar, 3), raised("NoLiar", 4))
        liar.forget(5)
        self.assertEqual(liar(3), 0)
        self.assertEqual(state(liar)[1:], (((1, 0), (2, 0), (3, 0), (4, 0), (6, 0)), 6, (), 4))

    def test_bad_names_go_ahead_of_too_many_answers(self):
        liar = KeepLiar(BOOK, 0)
        for name in (0, 3, -1, 10 ** 40):
            self.assertEqual(told(liar, name), raised("BadName", name))
        self.assertEqual(state(liar), (BOOK, (), 0, (), 0))
        liar(2)
        for name in (0, 2, 3, -1):
            self.assertEqual(told(liar, name), raised("BadName", name))
        self.assertEqual(told(liar, 1), raised("NoLiar", 0))
        self.assertEqual(state(liar), (BOOK, ((2, 0),), 1, (), 0))

    def test_questions_with_as_many_answers_as_the_bound(self):
        liar = KeepLiar(full_book(3), 1)
        self.assertEqual((liar(1), liar(2)), (0, 0))
        self.assertEqual(told(liar, 3), raised("NoLiar", 1))
        liar.forget(2)
        self.assertEqual(liar(3), 0)
        liar.forget(1, 3)
        self.assertEqual((liar(3), liar(1), liar.asked), (0, 0, 5))

    def test_questions_by_chance(self):
        source = random.Random(141)
        for book, bound, stands in liars(sample_books(142, 30) + [chain_book(5), full_book(4)]):
            liar = KeepLiar(book, bound)
            stand, asked = (), 0
            for _ in range(25):
                name = source.randint(0, book.names + 1)
                if source.random() < 0.4 and stand:
                    gone = source.sample([x for x, _ in stand], source.randint(0, len(stand)))
                    self.assertIsNone(liar.forget(*gone))
                    stand = tuple(pair for pair in stand if pair[0] not in gone)
                elif name in dict(stand) or not 1 <= name <= book.names:
                    self.assertEqual(told(liar, name), raised("BadName", name))
                elif len(stand) > bound:
                    self.assertEqual(told(liar, name), raised("NoLiar", bound))
                else:
                    answer = 0 if add(stand, name, 0) in stands else 1
                    self.assertEqual(liar(name), answer)
                    stand = add(stand, name, answer)
                    asked += 1
                self.assertEqual(state(liar), (book, stand, asked, (), bound))
                self.assertIn(stand, stands)
                self.assertTrue(plain(liar.stand))

    def test_held_answers_between_the_questions(self):
        source = random.Random(143)
        left = set()
        for book, bound, stands in liars(sample_books(144, 30) + [chain_book(4)]):
            for _ in range(6):
                liar = KeepLiar(book, bound)
                stand = ()
                for count, name in enumerate(source.sample(range(1, book.names + 1), book.names)):
                    if source.random() < 0.5:
                        answer = source.randint(0, 1)
                        self.assertEqual(liar.hold(name, answer), answer)
                    elif len(stand) > bound:
                        self.assertEqual(told(liar, name), raised("NoLiar", bound))
                        break
                    else:
                        answer = 0 if add(stand, name, 0) in stands else 1
                        self.assertEqual(liar(name), answer)
                    stand = add(stand, name, answer)
                    left.add(stand in stands)
                    self.assertEqual(state(liar), (book, stand, count + 1, book.breaks(stand), bound))
        self.assertEqual(left, {True, False})

    def test_held_answers_outside_of_the_object(self):
        liar = KeepLiar(BOOK, 0)
        liar.hold(1, 0)
        self.assertEqual(state(liar), (BOOK, ((1, 0),), 1, (1,), 0))
        self.assertEqual(told(liar, 2), raised("NoLiar", 0))
        liar = KeepLiar(full_book(3), 1)
        liar.hold(2, 1)
        liar.hold(3, 1)
        liar.hold(1, 1)
        self.assertEqual(state(liar), (full_book(3), ((1, 1), (2, 1), (3, 1)), 3, (0,), 1))
        liar.forget(2, 3)
        self.assertEqual((liar(3), liar.stand), (0, ((1, 1), (3, 0))))

    def test_two_liars_do_not_share_what_they_hold(self):
        first, second = KeepLiar(full_book(3), 1), KeepLiar(full_book(3), 1)
        first(1)
        self.assertEqual((second.stand, second.asked), ((), 0))

    def test_liars_after_liars_of_other_books(self):
        turned = Book(2, [((1, 1), (2, 0)), ((1, 0),), ((2, 1),)])
        for book, expected in ((BOOK, 1), (turned, 0), (BOOK, 1), (turned, 0)):
            self.assertEqual(KeepLiar(book, 0)(1), expected)


class Forget(unittest.TestCase):

    def liar(self):
        liar = KeepLiar(full_book(5), 3)
        for name in (4, 1, 3, 5):
            liar(name)
        return liar

    def test_forgetting(self):
        liar = self.liar()
        for names, stand in (((), (1, 3, 4, 5)), ((4,), (1, 3, 5)), ((), (1, 3, 5)), ((5, 1), (3,)), ((3,), ()),
                             ((), ())):
            self.assertIsNone(liar.forget(*names))
            self.assertEqual(state(liar), (full_book(5), tuple((x, 0) for x in stand), 4, (), 3))
            self.assertTrue(plain(liar.stand))

    def test_all_at_once_in_any_order(self):
        liar = self.liar()
        self.assertIsNone(liar.forget(5, 1, 4, 3))
        self.assertEqual((liar.stand, liar.asked), ((), 4))

    def test_names_without_an_answer(self):
        for names, bad in (((2,), 2), ((0,), 0), ((-1,), -1), ((6,), 6), ((10 ** 40,), 10 ** 40),
                           ((1, 2), 2), ((2, 1), 2), ((1, 3, 9, 2), 9), ((5, 0, 2), 0)):
            liar = self.liar()
            self.assertEqual(told(liar.forget, *names), raised("BadName", bad))
            self.assertEqual(state(liar), state(self.liar()))

    def test_names_that_are_passed_twice(self):
        for names, bad in (((1, 1), 1), ((3, 1, 3), 3), ((1, 3, 3, 1), 3), ((4, 5, 1, 5, 2), 5), ((1, 2, 1), 2)):
            liar = self.liar()
            self.assertEqual(told(liar.forget, *names), raised("BadName", bad))
            self.assertEqual(state(liar), state(self.liar()))

    def test_names_that_were_forgotten_before(self):
        liar = self.liar()
        liar.forget(1)
        self.assertEqual(told(liar.forget, 3, 1), raised("BadName", 1))
        self.assertEqual(liar.stand, ((3, 0), (4, 0), (5, 0)))
        self.assertEqual(liar(1), 0)
        self.assertIsNone(liar.forget(1, 3))

    def test_answers_that_were_held(self):
        liar = KeepLiar(BOOK, 0)
        liar.hold(2, 1)
        liar.hold(1, 1)
        self.assertEqual(liar.broken, (2,))
        liar.forget(2)
        self.assertEqual(state(liar), (BOOK, ((1, 1),), 2, (), 0))

    def test_a_liar_that_holds_nothing(self):
        liar = KeepLiar(Book(0, []), 0)
        self.assertIsNone(liar.forget())
        self.assertEqual(told(liar.forget, 1), raised("BadName", 1))
        self.assertEqual(told(liar, 1), raised("BadName", 1))


if __name__ == "__main__":
    unittest.main()
