"""Points 5, 11, 12 and 16 and the interface of changes."""

import itertools
import random
import unittest

from papersorliars.books import Book
from papersorliars.changes import first_filling, fillings, narrowed, renamed, renamed_row, turned, turned_row
from tests.helpers import (
    NO_STANDS, all_fillings, all_stands, broken, chain_book, full_book, plain, raised, random_book, sample_books, told,
)


class Narrowed(unittest.TestCase):

    def test_an_ordinary_book(self):
        book = Book(3, [((1, 0), (2, 1)), ((1, 1), (3, 0)), ((2, 0),), ((3, 1),)])
        self.assertEqual(narrowed(book, ((1, 0),)), Book(3, [((2, 0),), ((3, 0),), ((3, 1),)]))
        self.assertEqual(narrowed(book, ((1, 1),)), Book(3, [((2, 0),), ((2, 1),), ((3, 1),)]))
        self.assertEqual(narrowed(book, ((2, 1),)), Book(3, [(), ((1, 1), (3, 0)), ((3, 1),)]))
        self.assertEqual(narrowed(book, ()), book)

    def test_the_number_of_names_stays_and_equal_wishes_become_one(self):
        book = Book(3, [((1, 0), (3, 1)), ((2, 0), (3, 1)), ((3, 1),)])
        self.assertEqual(narrowed(book, ((1, 1), (2, 1))), Book(3, [((3, 1),)]))
        self.assertEqual(narrowed(book, ((3, 1),)), Book(3, []))
        self.assertEqual(narrowed(Book(0, [()]), ()), Book(0, [()]))
        self.assertEqual(narrowed(Book(0, []), ()), Book(0, []))

    def test_each_stand_of_each_book(self):
        for book in sample_books(4, 30):
            for stand in all_stands(book.names):
                expected = []
                for wish in book.wishes:
                    if not any(word in stand for word in wish):
                        expected.append([(x, v) for x, v in wish if (x, 1 - v) not in stand])
                self.assertEqual(narrowed(book, stand), Book(book.names, expected))

    def test_rows_that_are_no_stands(self):
        for stand in NO_STANDS:
            self.assertEqual(told(narrowed, Book(3, [()]), stand), raised("BadStand", stand))
        self.assertEqual(told(narrowed, Book(40, []), ((41, 0),)), raised("BadStand", ((41, 0),)))

    def test_the_book_does_not_change(self):
        book = Book(3, [((1, 0), (2, 1)), ((1, 1), (3, 0))])
        narrowed(book, ((1, 0),))
        self.assertEqual(book, Book(3, [((1, 0), (2, 1)), ((1, 1), (3, 0))]))

    def test_forty_names(self):
        wide = tuple((x, 1) for x in range(1, 41))
        self.assertEqual(narrowed(Book(40, [wide]), ((1, 0), (40, 0))), Book(40, [wide[1:39]]))


class Renamed(unittest.TestCase):

    def test_an_ordinary_book(self):
        book = Book(3, [((1, 0), (2, 1)), ((3, 1),)])
        self.assertEqual(renamed(book, (3, 1, 2)), Book(3, [((1, 1), (3, 0)), ((2, 1),)]))
        self.assertEqual(renamed(book, (2, 3, 1)), Book(3, [((2, 0), (3, 1)), ((1, 1),)]))
        self.assertEqual(renamed(book, (1, 2, 3)), book)
        self.assertEqual(renamed(Book(0, [()]), ()), Book(0, [()]))

    def test_each_order_of_some_books(self):
        source = random.Random(5)
        for _ in range(20):
            book = random_book(source, 4, source.randint(0, 8), 0)
            for order in itertools.permutations(range(1, 5)):
                expected = Book(4, [[(order[x - 1], v) for x, v in wish] for wish in book.wishes])
                self.assertEqual(renamed(book, order), expected)

    def test_orders_that_are_none(self):
        book = Book(3, [((1, 0), (2, 1))])
        for order in ((), (1, 2), (1, 2, 3, 4), (1, 2, 2), (0, 1, 2), (1, 2, 4), (2, 3, 4), (3, 2, 1, 1), (-1, 2, 3),
                      (1, 1, 1), (1, 2, 3, 3), (0, 1, 2, 3)):
            self.assertEqual(told(renamed, book, order), raised("BadOrder", order))
        self.assertEqual(told(renamed, Book(0, []), (1,)), raised("BadOrder", (1,)))
        self.assertEqual(told(renamed, Book(40, []), tuple(range(1, 40))), raised("BadOrder", tuple(range(1, 40))))

    def test_rows(self):
        self.assertEqual(renamed_row(((1, 0), (2, 1), (3, 1)), (3, 1, 2)), ((1, 1), (2, 1), (3, 0)))
        self.assertEqual(renamed_row((), (2, 1)), ())
        self.assertEqual(renamed_row(((2, 1),), (5, 7)), ((7, 1),))
        self.assertTrue(plain(renamed_row(((1, 0), (2, 1)), (2, 1))))


class Turned(unittest.TestCase):

    def test_an_ordinary_book(self):
        book = Book(3, [((1, 0), (2, 1)), ((2, 1), (3, 1)), ((3, 0),)])
        self.assertEqual(turned(book, (1, 3)), Book(3, [((1, 1), (2, 1)), ((2, 1), (3, 0)), ((3, 1),)]))
        self.assertEqual(turned(book, (2,)), Book(3, [((1, 0), (2, 0)), ((2, 0), (3, 1)), ((3, 0),)]))
        self.assertEqual(turned(book, ()), book)
        self.assertEqual(turned(Book(0, [()]), ()), Book(0, [()]))

    def test_each_row_of_names_of_some_books(self):
        source = random.Random(6)
        for _ in range(20):
            book = random_book(source, 4, source.randint(0, 8), 0)
            for many in range(5):
                for names in itertools.combinations(range(1, 5), many):
                    wishes = [[(x, 1 - v if x in names else v) for x, v in wish] for wish in book.wishes]
                    self.assertEqual(turned(book, names), Book(4, wishes))
                    self.assertEqual(turned(turned(book, names), names), book)

    def test_rows_of_names_that_are_none(self):
        book = Book(3, [((1, 0), (2, 1))])
        for names in ((0,), (4,), (1, 4), (2, 1), (1, 1), (1, 2, 2), (-1,), (0, 1), (1, 3, 2), (1, 2, 3, 4)):
            self.assertEqual(told(turned, book, names), raised("BadOrder", names))
        self.assertEqual(told(turned, Book(0, []), (1,)), raised("BadOrder", (1,)))

    def test_rows(self):
        self.assertEqual(turned_row(((1, 0), (2, 1), (3, 1)), (1, 3)), ((1, 1), (2, 1), (3, 0)))
        self.assertEqual(turned_row(((2, 1),), ()), ((2, 1),))
        self.assertEqual(turned_row(((2, 1),), (1, 3, 9)), ((2, 1),))
        self.assertEqual(turned_row((), (1, 2)), ())
        self.assertTrue(plain(turned_row(((1, 0), (2, 1)), (2,))))


class Fillings(unittest.TestCase):

    def test_all_fillings_that_keep_a_book(self):
        for book in sample_books(7, 40, 4):
            expected = [filling for filling in all_fillings(book.names) if not broken(book, filling)]
            self.assertEqual(list(fillings(book)), expected)
            self.assertTrue(plain(tuple(fillings(book))))
            self.assertEqual(first_filling(book), expected[0] if expected else None)

    def test_no_names(self):
        self.assertEqual((list(fillings(Book(0, []))), first_filling(Book(0, []))), ([()], ()))
        self.assertEqual((list(fillings(Book(0, [()]))), first_filling(Book(0, [()]))), ([], None))

    def test_six_names(self):
        self.assertEqual(list(fillings(Book(6, []))), all_fillings(6))
        self.assertEqual(list(fillings(full_book(6))), [])
        self.assertIsNone(first_filling(full_book(6)))
        last = tuple((x, 1) for x in range(1, 7))
        book = Book(6, [((x, 1),) for x in range(1, 7)])
        self.assertEqual((list(fillings(book)), first_filling(book)), ([last], last))
        self.assertIsNone(first_filling(chain_book(6)))
        book = Book(6, [((2, 1), (3, 0)), ((1, 1),), ((6, 0), (5, 1))])
        self.assertEqual(first_filling(book), ((1, 1), (2, 0), (3, 0), (4, 0), (5, 0), (6, 0)))

    def test_seven_names_raise_when_it_is_iterated(self):
        for names in (7, 40):
            for book in (Book(names, []), Book(names, [()])):
                rows = fillings(book)
                self.assertEqual(told(list, rows), raised("TooLarge", names, 6))
                self.assertEqual(told(next, fillings(book)), raised("TooLarge", names, 6))
                self.assertEqual(told(first_filling, book), raised("TooLarge", names, 6))


if __name__ == "__main__":
    unittest.main()
