"""Points 88 to 90 and the interface of rooms."""

import math
import random
import unittest

from papersorliars.books import Book
from papersorliars.polys import Poly
from papersorliars.rooms import closed_room
from tests import algebra
from tests.algebra import FIELDS, GREAT, NO_FIELDS
from tests.helpers import all_stands, chain_book, full_book, kept, plain, raised, random_book, sample_books, told
from tests.least import small_books

# The wishes are ((1, 0), (2, 1)), ((1, 1),) and ((2, 0),): the polynomials x - xy, 1 - x and y.
BOOK = Book(2, [((1, 0), (2, 1)), ((1, 1),), ((2, 0),)])


def terms_of(room):
    return [poly.terms for poly in room]


def expected_terms(book, field, bound):
    """The reduced basis, from the closed room that the tests make by themselves."""
    found = []
    for terms in algebra.closed_room(book, field, bound):
        last = max(terms, key=algebra.graded)
        if field == 0:
            scale = math.lcm(*[number.denominator for number in terms.values()])
            terms = {row: int(number * scale) for row, number in terms.items()}
            common = math.gcd(*terms.values()) * (1 if terms[last] > 0 else -1)
            terms = {row: number // common for row, number in terms.items()}
        found.append(tuple(sorted(terms.items(), key=lambda pair: algebra.graded(pair[0]))))
    return sorted(found, key=lambda terms: algebra.graded(terms[-1][0]))


class Rooms(unittest.TestCase):

    def check_form(self, field, bound, room):
        """The properties of point 90 that the row has by itself."""
        self.assertIs(type(room), tuple)
        lasts = [poly.terms[-1][0] for poly in room]
        self.assertEqual(lasts, sorted(set(lasts), key=algebra.graded))
        for poly in room:
            self.assertIs(type(poly), Poly)
            self.assertEqual(poly.field, field)
            self.assertTrue(plain(poly.terms))
            self.assertLessEqual(poly.degree, bound)
            self.assertEqual([row for row, _ in poly.terms[:-1] if row in lasts], [])
            numbers = [number for _, number in poly.terms]
            if field == 0:
                self.assertGreater(numbers[-1], 0)
                self.assertEqual(math.gcd(*numbers), 1)
            else:
                self.assertEqual(numbers[-1], 1)
                self.assertTrue(all(1 <= number < field for number in numbers))

    def check(self, book, field, bound):
        room = closed_room(book, field, bound)
        self.check_form(field, bound, room)
        self.assertEqual(terms_of(room), expected_terms(book, field, bound))
        return room

    def test_an_ordinary_book(self):
        for field in FIELDS:
            less = 1 if field == 2 else -1 if field == 0 else field - 1
            self.assertEqual(closed_room(BOOK, field, 0), ())
            # Over the bound 1: x - 1 and y.
            self.assertEqual(terms_of(self.check(BOOK, field, 1)), [(((), less), ((1,), 1)), (((2,), 1),)])
            # Over the bound 2 also y times x - 1 and x - xy, so x and 1, and all others.
            self.assertEqual(terms_of(self.check(BOOK, field, 2)), [((row, 1),) for row in algebra.products(2, 2)])

    def test_rooms_of_0_alone(self):
        for field in FIELDS:
            for bound in (0, 1, 3, GREAT):
                self.assertEqual(closed_room(Book(0, []), field, bound), ())
                self.assertEqual(closed_room(Book(5, []), field, bound), ())
            self.assertEqual(closed_room(full_book(3), field, 2), ())
            self.assertEqual(closed_room(full_book(5), field, 4), ())

    def test_rooms_with_one(self):
        for field in FIELDS:
            for bound in (0, 1, 2, 3, GREAT):
                for names in (0, 1, 3):
                    expected = [((row, 1),) for row in algebra.products(names, bound)]
                    self.assertEqual(terms_of(self.check(Book(names, [()]), field, bound)), expected)
            self.assertEqual(len(closed_room(full_book(5), field, 5)), 32)
            # A chain has steps of degree 2.
            self.assertEqual(terms_of(closed_room(chain_book(5), field, 2))[0], (((), 1),))

    def test_the_bound_0(self):
        for field in FIELDS:
            self.assertEqual(closed_room(BOOK, field, 0), ())
            self.assertEqual(terms_of(closed_room(Book(2, [(), ((1, 0),)]), field, 0)), [(((), 1),)])

    def test_wishes_with_more_words_than_the_bound(self):
        book = Book(3, [((1, 0),), ((1, 1), (2, 1)), ((1, 1), (2, 0), (3, 0))])
        for field in FIELDS:
            for bound in (0, 1, 2, 3):
                less = Book(3, [wish for wish in book.wishes if len(wish) <= bound])
                self.assertEqual(terms_of(self.check(book, field, bound)), terms_of(closed_room(less, field, bound)))
            # x at the bound 1; at the bound 2 also xy and xz, and 1 - y, which gives yz - z.
            self.assertEqual([terms[-1][0] for terms in terms_of(closed_room(book, field, 1))], [(1,)])
            self.assertEqual([terms[-1][0] for terms in terms_of(closed_room(book, field, 2))],
                             [(1,), (2,), (1, 2), (1, 3), (2, 3)])

    def test_numbers_other_than_one(self):
        # No two of three answers are equal; the room has xy and 1 - x - y, and so on, so also 1.
        wishes = [((x, v), (y, v)) for x, y in ((1, 2), (2, 3), (1, 3)) for v in (0, 1)]
        for field in FIELDS:
            self.assertEqual(terms_of(self.check(Book(3, wishes), field, 2))[0], (((), 1),))
        book = Book(4, [((x, v), (y, v)) for x, y in ((1, 2), (3, 4)) for v in (0, 1)])
        for field in FIELDS:
            for bound in range(5):
                self.check(book, field, bound)

    def test_all_small_books(self):
        for at, book in enumerate(small_books()):
            for bound in (0, 1, 2, GREAT):
                self.check(book, FIELDS[at % 5], bound)

    def test_books_by_chance(self):
        source = random.Random(331)
        great = 0
        books = sample_books(332, 40) + [random_book(source, 4, source.randint(4, 14), 1, 3) for _ in range(6)]
        for at, book in enumerate(books):
            for bound in (*range(book.names + 2), GREAT):
                room = self.check(book, FIELDS[at % 5], bound)
                if kept(book):
                    self.assertFalse(any(poly.terms == (((), 1),) for poly in room))
                great += any(number not in (0, 1, -1) for poly in room for _, number in poly.terms)
        self.assertGreater(great, 5)

    def test_kept_books_at_great_bounds(self):
        # The room of a book that is kept by one filling alone has all polynomials that are 0 at it.
        for field in FIELDS:
            room = self.check(Book(3, [((1, 1),), ((2, 0),), ((1, 0), (3, 1))]), field, 3)
            self.assertEqual(len(room), 7)
            self.assertEqual([poly(((1, 1), (2, 0), (3, 1))) for poly in room], [0] * 7)

    def test_five_names(self):
        source = random.Random(333)
        books = [chain_book(5), Book(5, all_stands(5)[115:]), random_book(source, 5, 12, 2, 3),
                 random_book(source, 5, 100, 2, 5)]
        for at, book in enumerate(books):
            for bound in (1, 2, 3, 5, 6):
                for field in (0, FIELDS[1 + at]):
                    self.check_form(field, bound, closed_room(book, field, bound))
            self.check(book, FIELDS[1 + at], 2)
            self.check(book, 0, 3)

    def test_equal_books_and_books_after_others(self):
        again = Book(2, [[(2, 0)], [(2, 1), (1, 0)], [(1, 1)], [(1, 1)]])
        for field in FIELDS:
            first = terms_of(closed_room(BOOK, field, 1))
            closed_room(full_book(3), field, 3)
            self.assertEqual(terms_of(closed_room(again, field, 1)), first)

    def test_errors(self):
        for names in (6, 7, 40):
            for field in (0, 5, 1, -7):
                self.assertEqual(told(closed_room, Book(names, [()]), field, 0), raised("TooLarge", names, 5))
        for field in NO_FIELDS:
            self.assertEqual(told(closed_room, BOOK, field, 0), raised("BadField", field))


if __name__ == "__main__":
    unittest.main()
