"""Points 88, 93 to 96 and 98 and the interface of tellers."""

import random
import unittest

from papersorliars.books import Book
from papersorliars.designs import design_fault
from papersorliars.rooms import closed_room
from papersorliars.tellers import teller_design, tellers, tellers_fault
from tests import algebra
from tests.algebra import FIELDS, GREAT, NO_FIELDS
from tests.helpers import all_stands, chain_book, full_book, kept, plain, raised, random_book, sample_books, told
from tests.least import small_books

# The wishes are ((1, 0), (2, 1)), ((1, 1),) and ((2, 0),): the polynomials x - xy, 1 - x and y.
BOOK = Book(2, [((1, 0), (2, 1)), ((1, 1),), ((2, 0),)])
ONE = (((), 1), ((1,), 1))


def some_tellers(books, bounds=(0, 1, 2, 3)):
    """Each book with a field, a bound and tellers."""
    for at, book in enumerate(books):
        field = FIELDS[at % 5]
        for bound in bounds:
            rows = tellers(book, field, bound)
            if rows is not None:
                yield book, field, bound, rows


def spoiled_tellers(source, book, rows):
    """The row of tellers with some places changed."""
    rows = list(rows)
    at = source.randint(0, max(len(rows) - 1, 0))
    deed = source.randint(0, 4)
    if deed == 0 or not rows:
        rows.insert(at, ())
    elif deed == 1:
        rows.pop(at)
    elif deed == 2:
        rows.append(rows[at])
    else:
        rows[at] = algebra.spoiled_terms(source, book.names, rows[at])
    return tuple(rows)


class Fault(unittest.TestCase):

    def test_right_tellers(self):
        for field in FIELDS:
            self.assertIsNone(tellers_fault(BOOK, field, 1, (ONE,)))
            self.assertIsNone(tellers_fault(BOOK, field, 0, ((((), 211),),)))
            self.assertIsNone(tellers_fault(Book(0, []), field, GREAT, ((((), 1),),)))
            # Tellers without pairs, and a teller that stands twice.
            self.assertIsNone(tellers_fault(BOOK, field, 1, ((), ONE, (), ONE)))

    def test_products(self):
        wrong = [(((0,), 1),), (((3,), 1),), (((1, 1), 1),), (((2, 1), 1),), (((-1,), 1),), (((10 ** 40,), 1),),
                 (((), 1), ((3,), 1)), (((), 1), ((1, 2, 3), 1))]
        for field in FIELDS:
            for teller in wrong:
                self.assertEqual(tellers_fault(BOOK, field, 2, (teller,)), (0, "form"), teller)
                self.assertEqual(tellers_fault(BOOK, field, 2, (ONE, ONE, teller)), (2, "form"), teller)

    def test_products_of_more_names_than_the_bound(self):
        for field in FIELDS:
            self.assertEqual(tellers_fault(BOOK, field, 1, ((((), 1), ((1, 2), 1)),)), (0, "form"))
            self.assertEqual(tellers_fault(BOOK, field, 0, (ONE,)), (0, "form"))
            self.assertEqual(tellers_fault(Book(5, []), field, 4, ((((1, 2, 3, 4, 5), 1),),)), (0, "form"))
            self.assertEqual(tellers_fault(Book(5, []), field, 5, ((((1, 2, 3, 4, 5), 1),),)), (1, "one"))

    def test_the_order_of_products(self):
        book = Book(3, [])
        for teller in ((((1,), 1), ((), 1)), (((2,), 1), ((1,), 1)), (((1, 2), 1), ((3,), 1)), (((), 1), ((), 1)),
                       (((), 1), ((1,), 1), ((1,), 1)), (((1, 3), 1), ((1, 2), 1)), (((1, 2, 3), 1), ((2, 3), 1))):
            for field in FIELDS:
                self.assertEqual(tellers_fault(book, field, 3, (teller,)), (0, "form"), teller)
        for teller in ((((3,), 1), ((1, 2), 1)), (((2, 3), 1), ((1, 2, 3), 1)), (((1, 3), 1), ((2, 3), 1))):
            for field in FIELDS:
                self.assertEqual(tellers_fault(book, field, 3, (teller,)), (1, "one"))

    def test_numbers_that_are_0_in_the_field(self):
        for field in FIELDS:
            for number in (0, field, -field, 210 * field):
                self.assertEqual(tellers_fault(BOOK, field, 1, ((((), number),),)), (0, "form"))
                self.assertEqual(tellers_fault(BOOK, field, 1, (ONE, ONE + (((2,), number),))), (1, "form"))
        self.assertEqual(tellers_fault(BOOK, 3, 1, ((((), 6), ((1,), 1)),)), (0, "form"))
        self.assertIsNone(tellers_fault(BOOK, 5, 1, ((((), 6), ((1,), 1)),)))

    def test_wishes(self):
        for field in FIELDS:
            self.assertEqual(tellers_fault(Book(0, [()]), field, 0, ((((), 1),),)), ((0, 0), "wish"))
            self.assertEqual(tellers_fault(BOOK, field, 1, ((((), 1),),)), ((0, 1), "wish"))
            self.assertEqual(tellers_fault(BOOK, field, 1, (ONE, (), ((*ONE, ((2,), 1))))), ((2, 2), "wish"))
            self.assertEqual(tellers_fault(BOOK, field, 2, (ONE,)), ((0, 0), "wish"))
            # Each teller is looked at with all wishes before the next one.
            self.assertEqual(tellers_fault(BOOK, field, 1, (((*ONE, ((2,), 1))), (((), 1),))), ((0, 2), "wish"))

    def test_no_teller_with_one(self):
        for field in FIELDS:
            self.assertEqual(tellers_fault(BOOK, field, 0, ()), (0, "one"))
            self.assertEqual(tellers_fault(BOOK, field, 1, ((), ())), (2, "one"))
            self.assertEqual(tellers_fault(Book(2, []), field, 1, ((((1,), 1),),)), (1, "one"))
        self.assertEqual(tellers_fault(Book(5, [()]), 0, 0, ()), (0, "one"))

    def test_open_tellers(self):
        for field in FIELDS:
            # 1 gets the number 1 and x another one; f has degree 0, so only f = 0 gets 0.
            self.assertIsNone(tellers_fault(Book(1, []), field, 1, ((((), 1),),)))
            # At the bound 2 the polynomial y gets 0 and x y does not, and so with x.
            teller = (((), 1), ((1, 2), 1))
            self.assertEqual(tellers_fault(Book(2, []), field, 2, (teller,)), (1, "open"))
            teller = (((), 1), ((1,), 1), ((1, 2), 1))
            self.assertEqual(tellers_fault(Book(2, []), field, 2, (teller,)), (1, "open"))
            # Over the name 1 it is closed: 2, 3 and 2 times 3.
            teller = (((), 1), ((2, 3), 1))
            self.assertEqual(tellers_fault(Book(3, []), field, 2, (teller,)), (2, "open"))
            # With the tellers that tell of it alone nothing is open.
            rows = (teller, (((2,), 1),), (((3,), 1),))
            self.assertIsNone(tellers_fault(Book(3, []), field, 2, rows))

    def test_open_in_some_fields(self):
        # The polynomial 1 - y gets 0, and x times it gets 1 - 23, which is 0 over 2 alone.
        teller = (((), 1), ((1,), 1), ((2,), 1), ((1, 2), 23))
        found = [tellers_fault(Book(2, []), field, 2, (teller,)) for field in FIELDS]
        self.assertEqual(found, [(1, "open"), None, (1, "open"), (1, "open"), (1, "open")])

    def test_the_first_of_several_faults(self):
        bad, wrong = (((3,), 1),), (((), 1),)
        self.assertEqual(tellers_fault(BOOK, 0, 1, (wrong, bad)), (1, "form"))
        self.assertEqual(tellers_fault(BOOK, 0, 1, (bad, bad)), (0, "form"))
        self.assertEqual(tellers_fault(BOOK, 0, 1, (ONE, wrong, wrong)), ((1, 1), "wish"))
        self.assertEqual(tellers_fault(BOOK, 0, 1, ((((2,), 1),),)), ((0, 2), "wish"))
        self.assertEqual(tellers_fault(Book(2, []), 0, 2, ((((1, 2), 1),),)), (1, "one"))

    def test_tellers_with_places_changed(self):
        source = random.Random(341)
        kinds = {}
        for book, field, bound, rows in some_tellers(sample_books(342, 60) + [chain_book(4), full_book(4)]):
            self.assertIsNone(tellers_fault(book, field, bound, rows))
            for _ in range(8):
                changed = spoiled_tellers(source, book, rows)
                if source.random() < 0.3:
                    changed = spoiled_tellers(source, book, changed)
                other = max(bound + source.choice((-1, 0, 0, 0, 0, 1)), 0)
                found = tellers_fault(book, field, other, changed)
                self.assertEqual(found, algebra.tellers_fault(book, field, other, changed))
                kinds[found and found[1]] = kinds.get(found and found[1], 0) + 1
        self.assertGreater(min([kinds.get(kind, 0) for kind in (None, "form", "wish", "one", "open")]), 8)

    def test_tellers_by_chance(self):
        # Over a book without wishes the tellers are open or not as chance will have it.
        source = random.Random(343)
        found = {}
        for _ in range(250):
            book, field, bound = Book(source.randint(0, 3), []), source.choice(FIELDS), source.randint(0, 4)
            places = algebra.products(book.names, bound)
            rows = []
            for _ in range(source.randint(1, 3)):
                some = [(row, source.choice((1, 1, -1, 2, 11))) for row in places if source.random() < 0.6]
                rows.append(tuple(pair for pair in some if algebra.written(field, pair[1])))
            fault = tellers_fault(book, field, bound, tuple(rows))
            self.assertEqual(fault, algebra.tellers_fault(book, field, bound, rows))
            found[fault] = True
        self.assertLessEqual({None, (1, "open"), (2, "open"), (1, "one")}, set(found))


class Errors(unittest.TestCase):

    def test_too_many_names_go_ahead_of_fields(self):
        for names in (6, 7, 40):
            for book in (Book(names, []), Book(names, [()])):
                for field in (0, 5, 1, -7):
                    for call, *rest in [(tellers, 0), (tellers, GREAT), (tellers_fault, 0, ()), (teller_design, 0, ())]:
                        self.assertEqual(told(call, book, field, *rest), raised("TooLarge", names, 5))

    def test_fields(self):
        for field in NO_FIELDS:
            for call, *rest in [(tellers, 0), (tellers_fault, 0, ()), (teller_design, 0, ())]:
                self.assertEqual(told(call, BOOK, field, *rest), raised("BadField", field))


class Tellers(unittest.TestCase):

    def check(self, book, field, bound):
        rows = tellers(book, field, bound)
        room = closed_room(book, field, bound)
        self.assertEqual(rows is None, (((), 1),) in [poly.terms for poly in room])
        if rows is None:
            self.assertFalse(kept(book))
            return None
        self.assertTrue(plain(rows))
        self.assertLessEqual(len(rows), 40)
        self.assertIsNone(tellers_fault(book, field, bound, rows))
        self.assertIsNone(algebra.tellers_fault(book, field, bound, rows))
        if field:
            self.assertTrue(all(1 <= number < field for teller in rows for _, number in teller))
        self.check_design(book, field, bound, rows)
        return rows

    def check_design(self, book, field, bound, rows):
        numbers = [dict(teller) for teller in rows if () in dict(teller)][0]
        found = teller_design(book, field, bound, rows)
        self.assertTrue(plain(found))
        self.assertEqual(found, tuple(
            (row, algebra.written(field, numbers.get(row, 0))) for row in algebra.products(book.names, bound)))
        self.assertIsNone(design_fault(book, field, bound, found))
        self.assertIsNone(algebra.design_fault(book, field, bound, found))

    def test_ordinary_books(self):
        for field in FIELDS:
            self.assertIsNotNone(self.check(BOOK, field, 0))
            self.assertIsNotNone(self.check(BOOK, field, 1))
            self.assertIsNone(self.check(BOOK, field, 2))
            self.assertIsNone(self.check(BOOK, field, GREAT))
            self.assertIsNone(self.check(Book(0, [()]), field, 0))
            self.assertIsNotNone(self.check(Book(0, []), field, 0))
            self.assertIsNotNone(self.check(Book(0, []), field, GREAT))
            self.assertIsNone(self.check(Book(4, [(), ((1, 0),)]), field, 0))
            self.assertIsNotNone(self.check(Book(5, []), field, GREAT))

    def test_chains_and_full_books(self):
        for field in FIELDS:
            for size in (2, 3, 4, 5):
                self.assertIsNotNone(self.check(chain_book(size), field, 1))
                self.assertIsNone(self.check(chain_book(size), field, 2))
                self.assertIsNotNone(self.check(full_book(size), field, size - 1))
                self.assertIsNone(self.check(full_book(size), field, size))

    def test_all_small_books(self):
        for at, book in enumerate(small_books()):
            for bound in (0, 1, 2, 3, GREAT):
                self.check(book, FIELDS[at % 5], bound)

    def test_books_by_chance(self):
        source = random.Random(344)
        books = sample_books(345, 40) + [random_book(source, 4, source.randint(4, 20), 1, 3) for _ in range(10)]
        for at, book in enumerate(books):
            for field in (0, FIELDS[at % 5]):
                for bound in (*range(book.names + 2), GREAT):
                    self.check(book, field, bound)

    def test_five_names(self):
        source = random.Random(346)
        books = [Book(5, all_stands(5)[1:129]), Book(5, all_stands(5)[115:])]
        books += [random_book(source, 5, many, 2, 4) for many in (8, 20, 60, 150)]
        for at, book in enumerate(books):
            for bound in (0, 1, 2, 3, 4, 5, 6, GREAT):
                self.check(book, FIELDS[at % 5], bound)

    def test_equal_books_and_books_after_others(self):
        again = Book(2, [[(2, 0)], [(2, 1), (1, 0)], [(1, 1)], [(1, 1)]])
        for field in FIELDS:
            first = tellers(BOOK, field, 1)
            tellers(full_book(3), field, 1)
            self.assertEqual((tellers(BOOK, field, 1), tellers(again, field, 1)), (first, first))


class Design(unittest.TestCase):

    def test_the_first_teller_with_one(self):
        book = Book(2, [])
        rows = ((((1,), 1),), (((), 2), ((2,), -1)), (((), 5),), ())
        self.assertEqual(teller_design(book, 0, 1, rows), (((), 2), ((1,), 0), ((2,), -1)))
        self.assertEqual(teller_design(book, 3, 1, rows), (((), 2), ((1,), 0), ((2,), 2)))
        self.assertEqual(teller_design(book, 7, 1, rows[2:]), (((), 5), ((1,), 0), ((2,), 0)))
        self.assertEqual(teller_design(BOOK, 0, 1, ((), ONE)), (((), 1), ((1,), 1), ((2,), 0)))
        self.assertEqual(teller_design(BOOK, 5, 0, ((((), 211),),)), (((), 1),))
        self.assertEqual(teller_design(Book(0, []), 0, GREAT, ((((), -4),),)), (((), -4),))

    def test_tellers_of_many_books(self):
        source = random.Random(347)
        for book, field, bound, rows in some_tellers(sample_books(348, 50) + [chain_book(4), full_book(4)]):
            more = list(rows)
            source.shuffle(more)
            more.insert(source.randint(0, len(more)), ())
            Tellers.check_design(self, book, field, bound, tuple(more))

    def test_faults(self):
        for rows, place, kind in (((), 0, "one"), ((ONE, (((3,), 1),)), 1, "form"), (((((), 1),),), (0, 1), "wish")):
            self.assertEqual(told(teller_design, BOOK, 0, 1, rows), raised("BadLiar", place, kind))
        rows = ((((), 1), ((1, 2), 1)),)
        self.assertEqual(told(teller_design, Book(2, []), 5, 2, rows), raised("BadLiar", 1, "open"))


if __name__ == "__main__":
    unittest.main()
