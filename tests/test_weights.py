"""Points 99, 102 to 105 and the interface of weights."""

import random
import unittest

from papersorliars.books import Book
from papersorliars.chances import chances
from papersorliars.weights import spread, weights, weights_fault
from tests import chancerows
from tests.helpers import (
    NO_STANDS, all_fillings, all_stands, chain_book, full_book, kept, plain, raised, random_book, sample_books, told,
)

GREAT = 10 ** 40 - 1
# The wishes are ((1, 0), (2, 1)), ((1, 1),) and ((2, 0),).
BOOK = Book(2, [((1, 0), (2, 1)), ((1, 1),), ((2, 0),)])
TWO = Book(1, [((1, 0),), ((1, 1),)])
MINUS = ((((1, 0),), -1), (((1, 1),), -1))
ALL = tuple((filling, -1) for filling in all_fillings(2))


class Spread(unittest.TestCase):

    def test_the_example(self):
        self.assertEqual(spread(3, ((2, 1),), 2), (((1, 0), (2, 1)), ((1, 1), (2, 1))))

    def test_sizes(self):
        self.assertEqual(spread(4, (), 0), ((),))
        self.assertEqual(spread(0, (), 0), ((),))
        self.assertEqual(spread(0, (), GREAT), ((),))
        self.assertEqual(spread(2, ((2, 0),), 1), (((2, 0),),))
        self.assertEqual(spread(2, ((2, 0),), 2), (((1, 0), (2, 0)), ((1, 1), (2, 0))))
        self.assertEqual(spread(2, ((2, 0),), GREAT), (((1, 0), (2, 0)), ((1, 1), (2, 0))))
        self.assertEqual(spread(2, (), 7), tuple(all_fillings(2)))
        self.assertEqual(spread(4, ((1, 1), (3, 0)), 3), (((1, 1), (2, 0), (3, 0)), ((1, 1), (2, 1), (3, 0))))

    def test_all_stands(self):
        for names in range(5):
            for stand in all_stands(names):
                for size in (0, 1, 2, 3, 4, 5, GREAT):
                    found = told(spread, names, stand, size)
                    if len(stand) > min(size, names):
                        self.assertEqual(found, raised("BadStand", stand))
                    else:
                        self.assertEqual(found, chancerows.spread(names, stand, size))
                        self.assertTrue(plain(found))

    def test_errors(self):
        for names in (5, 6, 40):
            for stand in ((), ((1, 0),), ((9, 9),)):
                for size in (0, 3, GREAT):
                    self.assertEqual(told(spread, names, stand, size), raised("TooLarge", names, 4))
        for stand in NO_STANDS:
            for size in (0, 3, GREAT):
                self.assertEqual(told(spread, 3, stand, size), raised("BadStand", stand))
        self.assertEqual(told(spread, 0, ((1, 0),), 1), raised("BadStand", ((1, 0),)))


class Fault(unittest.TestCase):

    def test_the_examples(self):
        self.assertIsNone(weights_fault(TWO, 1, MINUS))
        self.assertEqual(weights_fault(TWO, 1, ((((1, 0),), -1), (((1, 1),), -2))), (((1, 1),), "sum"))

    def test_right_weights(self):
        self.assertIsNone(weights_fault(Book(0, [()]), 0, (((), -1),)))
        self.assertIsNone(weights_fault(Book(0, [()]), GREAT, (((), -10 ** 59),)))
        self.assertIsNone(weights_fault(Book(4, [()]), 0, (((), -7),)))
        for bound in (1, 2, GREAT):
            self.assertIsNone(weights_fault(TWO, bound, MINUS))
        self.assertIsNone(weights_fault(BOOK, 2, ALL))
        self.assertIsNone(weights_fault(Book(2, [((1, 1),), ((1, 0),)]), 1, MINUS))
        # A stand that is not broken has a number above 0.
        book = Book(2, [((1, 1),), ((1, 0), (2, 1)), ((1, 0), (2, 0))])
        rows = ((((1, 0), (2, 0)), -3), (((1, 0), (2, 1)), -3), (((1, 1), (2, 0)), -3), (((1, 1), (2, 1)), -3))
        self.assertIsNone(weights_fault(book, 2, rows))
        mixed = ((((1, 0),), -7), (((1, 1),), -7), (((2, 0),), 5), (((2, 1),), 5))
        self.assertIsNone(weights_fault(Book(2, [((1, 1),), ((1, 0),)]), 1, mixed))

    def test_stands(self):
        for stand in NO_STANDS:
            self.assertEqual(weights_fault(full_book(3), 3, ((stand, 0),)), (0, "stand"))
        for stand in ((), ((1, 0), (2, 0))):
            self.assertEqual(weights_fault(BOOK, 1, ((stand, -1),)), (0, "stand"))
            self.assertEqual(weights_fault(TWO, 1, MINUS + ((stand, -1),)), (2, "stand"))
        self.assertEqual(weights_fault(BOOK, GREAT, ((((1, 0),), -1),)), (0, "stand"))
        self.assertEqual(weights_fault(BOOK, 0, ((((1, 0),), -1),)), (0, "stand"))

    def test_order(self):
        self.assertEqual(weights_fault(TWO, 1, MINUS[::-1]), (1, "order"))
        self.assertEqual(weights_fault(TWO, 1, (MINUS[0], MINUS[0])), (1, "order"))
        self.assertEqual(weights_fault(TWO, 1, (MINUS[1], (((1, 0),), 0))), (1, "order"))

    def test_numbers(self):
        self.assertEqual(weights_fault(TWO, 1, (MINUS[0], (((1, 1),), 0))), (1, "number"))
        self.assertEqual(weights_fault(BOOK, 1, ((((1, 1),), 0),)), (0, "number"))

    def test_numbers_below_0(self):
        self.assertEqual(weights_fault(BOOK, 1, ((((1, 0),), -1), (((1, 1),), -1))), (1, "below"))
        self.assertEqual(weights_fault(Book(0, []), 0, (((), -1),)), (0, "below"))
        self.assertEqual(weights_fault(Book(2, []), 2, ALL), (0, "below"))

    def test_sums(self):
        first = ((1, 0), (2, 0))
        self.assertEqual(weights_fault(BOOK, 2, ()), (first, "sum"))
        self.assertEqual(weights_fault(Book(0, [()]), 0, ()), ((), "sum"))
        self.assertEqual(weights_fault(Book(0, [()]), 0, (((), 1),)), ((), "sum"))
        self.assertEqual(weights_fault(Book(0, []), 0, (((), 1),)), ((), "sum"))
        self.assertEqual(weights_fault(BOOK, 2, tuple((stand, 1) for stand, _ in ALL)), (first, "sum"))
        # Sums that are 0 or differ at the first and at a later filling.
        for at in range(4):
            for number in (1, -2, -10 ** 59):
                rows = list(ALL)
                rows[at] = (rows[at][0], number)
                place = first if at == 0 and number > 0 else ALL[max(at, 1)][0]
                self.assertEqual(weights_fault(BOOK, 2, tuple(rows)), (place, "sum"))
            less = ALL[:at] + ALL[at + 1:]
            self.assertEqual(weights_fault(BOOK, 2, less), (ALL[at][0], "sum"))

    def test_the_first_of_several_faults(self):
        bad = (((1, 0), (2, 0)), 0)
        self.assertEqual(weights_fault(BOOK, 1, (bad, bad)), (0, "stand"))
        self.assertEqual(weights_fault(BOOK, 1, ((((2, 0),), 1), (((1, 1),), 0), bad)), (1, "order"))
        self.assertEqual(weights_fault(BOOK, 1, ((((1, 1),), 0), bad)), (0, "number"))
        self.assertEqual(weights_fault(BOOK, 1, ((((1, 1),), -1), bad)), (0, "below"))
        self.assertEqual(weights_fault(BOOK, 1, ((((1, 1),), 1), bad)), (1, "stand"))

    def test_weights_with_places_changed(self):
        source = random.Random(531)
        kinds = {}
        for book in sample_books(532, 70) + [chain_book(4), full_book(4)]:
            for bound in range(1, book.names + 1):
                rows = weights(book, bound) or ()
                for _ in range(8):
                    changed = chancerows.spoiled_pairs(source, book, rows)
                    if source.random() < 0.3:
                        changed = chancerows.spoiled_pairs(source, book, changed)
                    other = bound + source.choice((-1, 0, 0, 0, 0, 1))
                    found = weights_fault(book, other, changed)
                    self.assertEqual(found, chancerows.weights_fault(book, other, changed))
                    kinds[found and found[1]] = kinds.get(found and found[1], 0) + 1
        self.assertEqual(set(kinds), {None, "stand", "order", "number", "below", "sum"})

    def test_long_numbers(self):
        for number in (10 ** 60 - 1, 10 ** 59):
            rows = tuple((stand, -number) for stand, _ in ALL)
            self.assertIsNone(weights_fault(BOOK, 2, rows))
            self.assertEqual(weights_fault(BOOK, 2, rows[:3] + ((rows[3][0], 1 - number),)), (rows[3][0], "sum"))


class Weights(unittest.TestCase):

    def test_ordinary_books(self):
        self.assertIsNone(weights(BOOK, 0))
        self.assertIsNone(weights(BOOK, 1))
        self.assertIsNone(weights_fault(BOOK, 2, weights(BOOK, 2)))
        self.assertIsNone(weights_fault(BOOK, GREAT, weights(BOOK, GREAT)))
        self.assertIsNone(weights_fault(TWO, 1, weights(TWO, 1)))
        self.assertIsNone(weights(TWO, 0))
        self.assertIsNone(weights(Book(0, []), 0))
        self.assertIsNone(weights(Book(4, []), GREAT))
        self.assertIsNone(weights_fault(Book(4, [(), ((1, 0),)]), 0, weights(Book(4, [(), ((1, 0),)]), 0)))

    def test_weights_exist_exactly_without_chances(self):
        source = random.Random(533)
        books = sample_books(534, 60) + [random_book(source, 4, many, 1, 3) for many in (5, 10, 15, 20, 30)]
        for book in books:
            for bound in (*range(book.names + 2), GREAT):
                rows = weights(book, bound)
                self.assertEqual(rows is None, chances(book, bound) is not None)
                self.assertEqual(rows, weights(Book(book.names, book.wishes[::-1]), bound))
                if rows is not None:
                    self.assertTrue(plain(rows))
                    self.assertIsNone(chancerows.weights_fault(book, bound, rows))
                    self.assertLess(max(abs(number) for _, number in rows), 10 ** 60)
            self.assertEqual(weights(book, GREAT) is None, kept(book))

    def test_too_many_names(self):
        for names in (5, 6, 40):
            for book in (Book(names, []), Book(names, [()])):
                for bound in (0, 2, GREAT):
                    self.assertEqual(told(weights, book, bound), raised("TooLarge", names, 4))
                    for rows in ((), (((), 0),), ((((9, 9),), 0),)):
                        self.assertEqual(told(weights_fault, book, bound, rows), raised("TooLarge", names, 4))


if __name__ == "__main__":
    unittest.main()
