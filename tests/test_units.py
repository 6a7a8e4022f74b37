"""Points 52 to 54 and the interface of units."""

import random
import unittest

from papersorliars.books import Book
from papersorliars.points import least_points
from papersorliars.units import units
from tests.helpers import add, against, chain_book, full_book, plain, random_book, random_wish, sample_books
from tests.least import small_books


def reached(book):
    """What point 53 says, step by step."""
    stand, answers = (), ()
    while True:
        for index, wish in enumerate(book.wishes):
            if against(stand, wish):
                return (answers, index)
        held = dict(stand)
        for wish in book.wishes:
            others = [(x, v) for x, v in wish if held.get(x) != 1 - v]
            if len(others) == 1 and others[0][0] not in held:
                answers += (others[0],)
                stand = add(stand, *others[0])
                break
        else:
            return (answers, None)


class Units(unittest.TestCase):

    def check(self, book):
        found = units(book)
        self.assertEqual(found, reached(book), (book.names, book.wishes))
        self.assertTrue(plain(found[0]))
        self.assertIs(type(found), tuple)
        return found

    def test_the_example_of_the_document(self):
        book = Book(2, [((1, 0),), ((1, 1), (2, 0)), ((1, 1), (2, 1))])
        self.assertEqual(units(book), (((1, 0), (2, 0)), 2))
        self.assertEqual(least_points(book), 1)

    def test_the_wish_without_words(self):
        self.assertEqual(units(Book(0, [()])), ((), 0))
        self.assertEqual(units(Book(3, [(), ((1, 0),), ((1, 1),)])), ((), 0))
        self.assertEqual(units(Book(40, [()])), ((), 0))

    def test_books_without_wishes(self):
        for names in (0, 1, 6, 40):
            self.assertEqual(units(Book(names, [])), ((), None))

    def test_the_least_index_counts(self):
        # The wishes ((2, 1),) and ((1, 1),) are both units; the wish ((1, 1),) has the lesser index.
        self.assertEqual(units(Book(2, [((2, 1),), ((1, 1),)])), (((1, 1), (2, 1)), None))
        # When (2, 1) was added, the wish ((1, 0), (2, 0)) has become a unit and goes ahead of ((3, 0),).
        book = Book(3, [((2, 1),), ((3, 0),), ((1, 0), (2, 0))])
        self.assertEqual(units(book), (((2, 1), (1, 0), (3, 0)), None))
        # Both wishes of the name 1 are broken as soon as one is taken: the index is that of the other.
        self.assertEqual(units(Book(1, [((1, 0),), ((1, 1),)])), (((1, 0),), 1))

    def test_the_least_broken_wish(self):
        book = Book(2, [((1, 0),), ((1, 1), (2, 0)), ((1, 1), (2, 1)), ((2, 1),)])
        self.assertEqual(units(book), (((1, 0), (2, 0)), 2))
        book = Book(3, [((1, 1), (3, 0)), ((1, 1), (3, 1)), ((1, 0),), ((2, 0),), ((2, 1),), ((1, 1), (2, 1))])
        self.assertEqual(units(book), reached(book))
        # One answer breaks two wishes at once.
        book = Book(2, [((1, 0), (2, 0)), ((1, 0), (2, 1)), ((1, 1),), ((2, 0),), ((2, 1),)])
        self.assertEqual(units(book), (((1, 1), (2, 0)), 1))

    def test_met_wishes_are_no_units(self):
        self.assertEqual(units(Book(2, [((1, 0),), ((1, 0), (2, 1))])), (((1, 0),), None))
        self.assertEqual(units(Book(3, [((1, 1),), ((1, 0), (2, 1), (3, 0)), ((2, 0),)])),
                         (((1, 1), (2, 0), (3, 0)), None))
        self.assertEqual(units(Book(3, [((1, 1),), ((1, 1), (2, 1)), ((1, 1), (2, 0), (3, 0))])), (((1, 1),), None))

    def test_no_units(self):
        self.assertEqual(units(full_book(2)), ((), None))
        self.assertEqual(units(full_book(6)), ((), None))
        self.assertEqual(units(Book(4, [((1, 0), (2, 1)), ((3, 0), (4, 1))])), ((), None))

    def test_all_small_books(self):
        for book in small_books():
            self.check(book)

    def test_books_by_chance(self):
        source = random.Random(111)
        for book in sample_books(112, 150, 5):
            self.check(book)
        for _ in range(150):
            names = source.randint(2, 12)
            self.check(random_book(source, names, source.randint(2, 24), 1, 3))

    def test_the_measure_in_points(self):
        source = random.Random(113)
        books = list(small_books()) + sample_books(114, 60, 4) + [chain_book(6), full_book(4)]
        books += [random_book(source, 4, 12, 1, 2) for _ in range(40)]
        seen = set()
        for book in books:
            points = least_points(book)
            answers, index = self.check(book)
            self.assertEqual(points == 0, () in book.wishes)
            self.assertEqual(points is not None and points <= 1, index is not None)
            seen.add((min(points, 2) if points is not None else None, index is not None))
        self.assertEqual(seen, {(None, False), (0, True), (1, True), (2, False)})

    def test_forty_names(self):
        # The last of the 41 wishes is ((40, 0),).
        self.assertEqual(units(chain_book(40)), (tuple((x, 1) for x in range(1, 41)), 40))
        book = chain_book(40)
        answers, index = self.check(book)
        self.assertEqual(book.wishes[index], ((40, 0),))
        self.assertEqual(len(answers), 40)
        backwards = Book(40, [((40, 0),), *[((j - 1, 0), (j, 1)) for j in range(2, 41)]])
        self.assertEqual(units(backwards), (tuple((x, 0) for x in range(40, 0, -1)), None))

    def test_forty_names_and_128_wishes(self):
        source = random.Random(115)
        for least in (1, 2, 3):
            for _ in range(6):
                wishes = {random_wish(source, 40, least, 3) for _ in range(300)}
                book = Book(40, sorted(wishes)[:100] + sorted(wishes)[-28:])
                self.assertEqual(len(book.wishes), 128)
                self.check(book)
        wide = [tuple((x, 0) for x in range(1, 41))] + [tuple((x, x % 2) for x in range(1, k)) for k in range(2, 41)]
        self.check(Book(40, wide))

    def test_equal_books_and_books_after_others(self):
        first, other = chain_book(3), full_book(3)
        self.assertEqual([units(first), units(other), units(chain_book(3))], [units(first), units(other), units(first)])


if __name__ == "__main__":
    unittest.main()
