"""Points 83 to 85, 87 and 88 and the interface of designs."""

import random
import unittest

from papersorliars.books import Book
from papersorliars.depth import depth_liar_fault
from papersorliars.designs import design, design_fault, design_liar, joined_design
from papersorliars.sums import sum_paper
from tests import algebra
from tests.algebra import FIELDS, GREAT, NO_FIELDS
from tests.helpers import (
    all_stands, chain_book, full_book, kept, plain, raised, random_book, sample_books, told,
)
from tests.least import small_books

# The wishes are ((1, 0), (2, 1)), ((1, 1),) and ((2, 0),): the polynomials x - xy, 1 - x and y.
BOOK = Book(2, [((1, 0), (2, 1)), ((1, 1),), ((2, 0),)])
# It gives 0 to 1 - x and to y; the wish of two words does not count.
ROWS = (((), 1), ((1,), 1), ((2,), 0))


def filling_design(book, bound, filling):
    """The values of the products at a filling that keeps the book."""
    answers = dict(filling)
    return tuple((row, int(all(answers[x] for x in row))) for row in algebra.products(book.names, bound))


def designs(books, bounds=(0, 1, 2, 3)):
    """Each book with a field, a bound and a design."""
    for at, book in enumerate(books):
        field = FIELDS[at % 5]
        for bound in bounds:
            rows = design(book, field, bound)
            if rows is not None:
                yield book, field, bound, rows


class Fault(unittest.TestCase):

    def test_right_designs(self):
        for field in FIELDS:
            self.assertIsNone(design_fault(BOOK, field, 1, ROWS))
            self.assertIsNone(design_fault(Book(0, []), field, 0, (((), 1),)))
            self.assertIsNone(design_fault(Book(0, []), field, GREAT, (((), -1),)))
            # Wishes with more words than the bound do not count.
            self.assertIsNone(design_fault(BOOK, field, 0, (((), 211),)))
            self.assertIsNone(design_fault(full_book(3), field, 2, tuple(
                (row, 1 if row == () else 5) for row in algebra.products(3, 2))))

    def test_rows_that_are_not_due(self):
        for rows, at in (((), 0), (ROWS[:1], 1), (ROWS[:2], 2), (ROWS + (((1, 2), 0),), 3), (ROWS + ROWS, 3),
                         (ROWS[1:], 0), (ROWS[:1] + ROWS[2:], 1), ((ROWS[0], ROWS[2], ROWS[1]), 1),
                         ((((), 0), ((1,), 1), ((3,), 0)), 2), ((((0,), 1),) + ROWS[1:], 0),
                         ((((), 0), ((1, 1), 0), ((2,), 0)), 1), ((((), 0), ((), 0), ((2,), 0)), 1)):
            for field in FIELDS:
                self.assertEqual(design_fault(BOOK, field, 1, rows), (at, "row"), rows)
        self.assertEqual(design_fault(BOOK, 0, 0, ROWS), (1, "row"))
        self.assertEqual(design_fault(BOOK, 0, 2, ROWS), (3, "row"))
        self.assertEqual(design_fault(BOOK, 0, GREAT, ROWS), (3, "row"))
        # Within a number of names the graded order goes by the names.
        rows = tuple((row, 1) for row in sorted(algebra.products(3, 2)))
        self.assertEqual(design_fault(Book(3, []), 0, 2, rows), (2, "row"))

    def test_the_number_of_one(self):
        for field in FIELDS:
            for number in (0, field, -field, 210 * field):
                self.assertEqual(design_fault(BOOK, field, 1, (((), number),) + ROWS[1:]), (0, "one"))
                self.assertEqual(design_fault(Book(0, [()]), field, 0, (((), number),)), (0, "one"))

    def test_wishes(self):
        for field in FIELDS:
            self.assertEqual(design_fault(Book(0, [()]), field, 0, (((), 1),)), (((), 0), "wish"))
            self.assertEqual(design_fault(BOOK, field, 1, (((), 1), ((1,), 0), ((2,), 1))), (((), 1), "wish"))
            self.assertEqual(design_fault(BOOK, field, 1, (((), 1), ((1,), 1), ((2,), 1))), (((), 2), "wish"))
        # At the bound 2 also the wish of two words counts, and the products with the others.
        rows = ROWS + (((1, 2), 0),)
        self.assertEqual(design_fault(BOOK, 0, 2, rows), (((), 0), "wish"))
        rows = ROWS + (((1, 2), 1),)
        self.assertEqual(design_fault(BOOK, 0, 2, rows), (((2,), 1), "wish"))
        rows = (((), 1), ((1,), 1), ((2,), 1), ((1, 2), 1))
        self.assertEqual(design_fault(BOOK, 0, 2, rows), (((), 2), "wish"))

    def test_products_come_in_graded_order(self):
        # The wish ((1, 1),) with the products (), (2,), (3,) and (2, 3).
        book = Book(3, [((1, 1),)])
        numbers = {row: 1 for row in algebra.products(3, 3)}
        self.assertIsNone(design_fault(book, 0, 3, tuple(numbers.items())))
        for row, place in (((1,), ()), ((1, 2), (2,)), ((1, 3), (3,)), ((1, 2, 3), (2, 3))):
            found = design_fault(book, 0, 3, tuple({**numbers, row: 2}.items()))
            self.assertEqual(found, ((place, 0), "wish"))
        found = design_fault(book, 0, 3, tuple({**numbers, (1, 2, 3): 2, (1, 3): 2}.items()))
        self.assertEqual(found, (((3,), 0), "wish"))

    def test_designs_with_places_changed(self):
        source = random.Random(321)
        kinds = set()
        for book, field, bound, rows in designs(sample_books(322, 60) + [chain_book(4), full_book(4)]):
            self.assertIsNone(design_fault(book, field, bound, rows))
            for _ in range(6):
                changed = algebra.spoiled_terms(source, book.names, rows)
                other = max(bound + source.choice((-1, 0, 0, 0, 0, 1)), 0)
                found = design_fault(book, field, other, changed)
                self.assertEqual(found, algebra.design_fault(book, field, other, changed))
                kinds.add(found and found[1])
        self.assertEqual(kinds, {None, "row", "one", "wish"})

    def test_exchanged_entries(self):
        book = full_book(3)
        rows = design(book, 0, 2)
        for first in range(len(rows)):
            for second in range(first):
                changed = list(rows)
                changed[first], changed[second] = rows[second], rows[first]
                self.assertEqual(design_fault(book, 0, 2, tuple(changed)), (second, "row"))


class Errors(unittest.TestCase):

    def test_too_many_names_go_ahead_of_fields(self):
        for names in (6, 7, 40):
            for book in (Book(names, []), Book(names, [()])):
                for field in (0, 5, 1, -7):
                    for call, *rest in [(design, 0), (design, GREAT), (design_fault, 0, ()), (design_liar, 0, ())]:
                        self.assertEqual(told(call, book, field, *rest), raised("TooLarge", names, 5))

    def test_the_names_of_two_books_count_together(self):
        bad = (((9,), 0),)
        for one, two in ((3, 3), (6, 0), (0, 6), (5, 1), (40, 40), (7, 33), (30, 11)):
            for field in (0, 4):
                self.assertEqual(told(joined_design, Book(one, []), Book(two, []), field, 1, bad, bad),
                                 raised("TooLarge", one + two, 5))

    def test_fields(self):
        for field in NO_FIELDS:
            for call, *rest in [(design, 0), (design_fault, 0, ()), (design_liar, 0, ())]:
                self.assertEqual(told(call, BOOK, field, *rest), raised("BadField", field))
            self.assertEqual(told(joined_design, BOOK, BOOK, field, 0, (), ()), raised("BadField", field))


class Designs(unittest.TestCase):

    def check(self, book, field, bound):
        rows = design(book, field, bound)
        paper = sum_paper(book, field, bound)
        self.assertEqual(rows is None, paper is not None)
        if rows is None:
            self.assertIsNone(algebra.sum_fault(book, field, paper, bound))
            return None
        self.assertTrue(plain(rows))
        self.assertIsNone(algebra.design_fault(book, field, bound, rows))
        self.assertIsNone(design_fault(book, field, bound, rows))
        if field:
            self.assertTrue(all(0 <= number < field for _, number in rows))
        return rows

    def test_ordinary_books(self):
        for field in FIELDS:
            rows = self.check(BOOK, field, 1)
            self.assertEqual([row for row, _ in rows], [(), (1,), (2,)])
            self.assertIsNone(self.check(BOOK, field, 2))
            self.assertIsNone(self.check(Book(0, [()]), field, 0))
            self.assertEqual(len(self.check(Book(0, []), field, GREAT)), 1)
            self.assertEqual(len(self.check(Book(5, []), field, GREAT)), 32)

    def test_all_small_books(self):
        for at, book in enumerate(small_books()):
            for bound in (0, 1, 2, 3, GREAT):
                self.check(book, FIELDS[at % 5], bound)

    def test_books_by_chance(self):
        source = random.Random(323)
        books = sample_books(324, 40) + [random_book(source, 4, source.randint(4, 24), 1, 3) for _ in range(10)]
        for book in books:
            for field in FIELDS:
                for bound in (*range(book.names + 2), GREAT):
                    rows = self.check(book, field, bound)
                    self.assertTrue(rows is not None or not kept(book))
                    self.assertTrue(rows is None or kept(book) or bound < book.names)

    def test_five_names(self):
        source = random.Random(325)
        books = [full_book(5), chain_book(5), Book(5, all_stands(5)[1:129]), Book(5, all_stands(5)[115:]), Book(5, [])]
        books += [random_book(source, 5, many, 1, 4) for many in (10, 40, 150)]
        for book in books:
            for field in FIELDS:
                for bound in (0, 1, 2, 3, 4, 5, 6, GREAT):
                    self.check(book, field, bound)

    def test_equal_books_and_books_after_others(self):
        again = Book(2, [[(2, 0)], [(2, 1), (1, 0)], [(1, 1)], [(1, 1)]])
        for field in FIELDS:
            first = design(BOOK, field, 1)
            design(full_book(3), field, 1)
            self.assertEqual((design(BOOK, field, 1), design(again, field, 1)), (first, first))


class Depth(unittest.TestCase):

    def expected(self, book, field, bound, rows):
        numbers = dict(rows)
        stands = all_stands(book.names, bound)
        return tuple(s for s in stands if algebra.given(field, numbers, algebra.stand_terms(field, s)) != 0)

    def test_an_ordinary_design(self):
        for field in FIELDS:
            self.assertEqual(design_liar(BOOK, field, 1, ROWS), ((), ((1, 1),), ((2, 0),)))
            self.assertEqual(design_liar(Book(0, []), field, GREAT, (((), 1),)), ((),))
            self.assertEqual(design_liar(BOOK, field, 0, (((), 1),)), ((),))

    def test_numbers_that_are_0_in_the_field(self):
        book = Book(1, [])
        self.assertEqual(design_liar(book, 2, 1, (((), 1), ((1,), 2))), ((), ((1, 0),)))
        self.assertEqual(design_liar(book, 3, 1, (((), 1), ((1,), 2))), ((), ((1, 0),), ((1, 1),)))
        self.assertEqual(design_liar(book, 2, 1, (((), 1), ((1,), 3))), ((), ((1, 1),)))
        self.assertEqual(design_liar(book, 7, 1, (((), 8), ((1,), 1))), ((), ((1, 1),)))

    def test_designs_of_many_books(self):
        source = random.Random(326)
        books = sample_books(327, 60) + [chain_book(4), full_book(4), chain_book(5), full_book(5)]
        books += [random_book(source, 5, 30, 2, 4) for _ in range(4)]
        for book, field, bound, rows in designs(books, (0, 1, 2, 3, 4, 6, GREAT)):
            stands = design_liar(book, field, bound, rows)
            self.assertTrue(plain(stands))
            self.assertEqual(stands, self.expected(book, field, bound, rows))
            self.assertIsNone(depth_liar_fault(book, bound, stands))

    def test_designs_by_chance(self):
        # Over a book without wishes all numbers are a design if that of () is not 0.
        source = random.Random(328)
        for _ in range(40):
            book, field, bound = Book(source.randint(0, 4), []), source.choice(FIELDS), source.randint(0, 4)
            rows = tuple((row, source.randint(-9, 9)) for row in algebra.products(book.names, bound))
            if algebra.written(field, rows[0][1]) == 0:
                self.assertEqual(told(design_liar, book, field, bound, rows), raised("BadLiar", 0, "one"))
                continue
            stands = design_liar(book, field, bound, rows)
            self.assertEqual(stands, self.expected(book, field, bound, rows))
            self.assertIsNone(depth_liar_fault(book, bound, stands))

    def test_fillings(self):
        # The values of the products at a filling are a design, whose stands are the parts of the filling.
        book = Book(3, [((1, 0), (2, 1)), ((3, 0),)])
        filling = ((1, 1), (2, 1), (3, 0))
        for field in FIELDS:
            for bound in (0, 1, 2, 3, 5):
                rows = filling_design(book, bound, filling)
                expected = tuple(s for s in all_stands(3, bound) if set(s) <= set(filling))
                self.assertEqual(design_liar(book, field, bound, rows), expected)

    def test_faults(self):
        for rows, place, kind in (((), 0, "row"), ((((), 0),) + ROWS[1:], 0, "one"),
                                  ((((), 1), ((1,), 1), ((2,), 1)), ((), 2), "wish")):
            for field in FIELDS:
                self.assertEqual(told(design_liar, BOOK, field, 1, rows), raised("BadLiar", place, kind))


def joined(book, other, field, bound, rows, others):
    """The rows of point 87."""
    one, two = dict(rows), dict(others)
    found = []
    for row in algebra.products(book.names + other.names, bound):
        first = tuple(x for x in row if x <= book.names)
        second = tuple(x - book.names for x in row if x > book.names)
        found.append((row, algebra.written(field, one[first] * two[second])))
    return tuple(found)


class Joined(unittest.TestCase):

    def test_an_ordinary_pair(self):
        rows = (((), 2), ((1,), 3))
        others = (((), 5), ((1,), -1), ((2,), 0))
        one, two = Book(1, []), Book(2, [])
        self.assertEqual(joined_design(one, two, 0, 1, rows, others), (((), 10), ((1,), 15), ((2,), -2), ((3,), 0)))
        self.assertEqual(joined_design(one, two, 7, 1, rows, others), (((), 3), ((1,), 1), ((2,), 5), ((3,), 0)))
        self.assertEqual(joined_design(two, one, 0, 1, others, rows), (((), 10), ((1,), -2), ((2,), 0), ((3,), 15)))
        self.assertEqual(joined_design(Book(0, []), two, 0, 1, (((), 3),), others), (((), 15), ((1,), -3), ((2,), 0)))

    def test_pairs_of_books(self):
        books = sample_books(329, 20, 2) + [chain_book(3)]
        for at, first in enumerate(books):
            for second in books:
                field = FIELDS[at % 5]
                for bound in (0, 1, 2, 3, GREAT):
                    rows, others = design(first, field, bound), design(second, field, bound)
                    if rows is None or others is None or first.names + second.names > 5:
                        continue
                    found = joined_design(first, second, field, bound, rows, others)
                    self.assertEqual(found, joined(first, second, field, bound, rows, others))
                    self.assertTrue(plain(found))
                    self.assertIsNone(algebra.design_fault(first + second, field, bound, found))

    def test_five_names(self):
        first, second = full_book(3), chain_book(2)
        for field in FIELDS:
            rows, others = design(first, field, 1), design(second, field, 1)
            found = joined_design(first, second, field, 1, rows, others)
            self.assertEqual(found, joined(first, second, field, 1, rows, others))
            self.assertIsNone(design_fault(first + second, field, 1, found))

    def test_faults(self):
        bad, none = (((), 0),) + ROWS[1:], ()
        self.assertEqual(told(joined_design, BOOK, BOOK, 0, 1, none, bad), raised("BadLiar", 0, "row"))
        self.assertEqual(told(joined_design, BOOK, BOOK, 0, 1, bad, none), raised("BadLiar", 0, "one"))
        self.assertEqual(told(joined_design, BOOK, BOOK, 0, 1, ROWS, bad), raised("BadLiar", 0, "one"))
        self.assertEqual(told(joined_design, BOOK, BOOK, 0, 1, ROWS, ROWS[:2]), raised("BadLiar", 2, "row"))
        self.assertEqual(told(joined_design, BOOK, Book(2, []), 0, 2, ROWS + (((1, 2), 0),), none),
                         raised("BadLiar", ((), 0), "wish"))

    def test_the_new_book_is_not_made(self):
        # Side by side there would be 129 wishes, and in the second pair there are 128 of them.
        many = Book(5, all_stands(5)[115:])
        self.assertEqual(len(many.wishes), 128)
        rows = design(many, 0, 0)
        self.assertEqual(rows, (((), rows[0][1]),))
        self.assertEqual(told(joined_design, many, Book(0, [()]), 0, 0, rows, (((), 1),)),
                         raised("BadLiar", ((), 0), "wish"))
        self.assertEqual(told(joined_design, many, Book(0, [()]), 0, 0, (), ()), raised("BadLiar", 0, "row"))
        self.assertEqual(joined_design(many, Book(0, []), 0, 0, rows, (((), 3),)), (((), 3 * rows[0][1]),))


if __name__ == "__main__":
    unittest.main()
