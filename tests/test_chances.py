"""Points 99 to 101 and 104 and the interface of chances."""

import itertools
import random
import unittest

from papersorliars.books import Book
from papersorliars.chances import chance_either, chances, chances_fault, least_chance
from papersorliars.sums import least_sum
from papersorliars.weights import weights, weights_fault
from tests import chancerows
from tests.helpers import (
    NO_STANDS, all_fillings, all_stands, broken, chain_book, full_book, kept, plain, raised, random_book,
    random_wish, sample_books, told,
)
from tests.least import small_books

GREAT = 10 ** 40 - 1
FULL = Book(2, all_fillings(2))
# The example of point 100.
ROWS = (((), 2), (((1, 0),), 1), (((1, 1),), 1), (((2, 0),), 1), (((2, 1),), 1))
# The wishes are ((1, 0), (2, 1)), ((1, 1),) and ((2, 0),).
BOOK = Book(2, [((1, 0), (2, 1)), ((1, 1),), ((2, 0),)])


class Fault(unittest.TestCase):

    def test_the_example(self):
        self.assertIsNone(chances_fault(FULL, 1, ROWS))
        self.assertEqual(chances_fault(FULL, 2, ROWS), (2, "row"))
        self.assertEqual(chances_fault(FULL, 0, ROWS), (1, "row"))

    def test_right_chances(self):
        self.assertIsNone(chances_fault(FULL, 0, (((), 1),)))
        self.assertIsNone(chances_fault(Book(0, []), GREAT, (((), 10 ** 60 - 1),)))
        self.assertIsNone(chances_fault(BOOK, 1, (((), 3), (((1, 0),), 0), (((1, 1),), 3), (((2, 0),), 3), (((2, 1),), 0))))
        for filling in all_fillings(3):
            for bound in (0, 1, 2, 3, GREAT):
                self.assertIsNone(chances_fault(Book(3, []), bound, chancerows.counted(Book(3, []), bound, [filling])))

    def test_rows(self):
        for at in range(5):
            self.assertEqual(chances_fault(FULL, 1, ROWS[:at] + ROWS[at + 1:]), (at, "row"))
            self.assertEqual(chances_fault(FULL, 1, ROWS[:at]), (at, "row"))
            self.assertEqual(chances_fault(FULL, 1, ROWS[:at] + ((((3, 0),), 1),) + ROWS[at:]), (at, "row"))
            self.assertEqual(chances_fault(FULL, 1, ROWS[:at] + ((((1, 0), (2, 0)), -1),) + ROWS[at + 1:]), (at, "row"))
        self.assertEqual(chances_fault(FULL, 1, ROWS + ((((2, 1),), 1),)), (5, "row"))
        self.assertEqual(chances_fault(FULL, 1, ()), (0, "row"))
        self.assertEqual(chances_fault(FULL, 1, ROWS[:1] + (ROWS[2], ROWS[1]) + ROWS[3:]), (1, "row"))
        self.assertEqual(chances_fault(Book(0, []), 0, ()), (0, "row"))
        for stand in NO_STANDS:
            self.assertEqual(chances_fault(FULL, 1, ROWS[:4] + ((stand, 1),)), (4, "row"))

    def test_numbers_below_0(self):
        for at in range(5):
            rows = ROWS[:at] + ((ROWS[at][0], -1),) + ROWS[at + 1:]
            self.assertEqual(chances_fault(FULL, 1, rows), (at, "below"))
        self.assertEqual(chances_fault(BOOK, 1, (((), 0), (((1, 0),), -1), *ROWS[2:])), (1, "below"))

    def test_broken_stands(self):
        self.assertEqual(chances_fault(BOOK, 1, ROWS), (1, "broken"))
        self.assertEqual(chances_fault(Book(0, [()]), 0, (((), 1),)), (0, "broken"))
        rows = tuple((stand, 1 if stand == ((1, 1), (2, 0)) else 0) for stand in all_stands(2))
        self.assertEqual(chances_fault(BOOK, 2, rows), (all_stands(2).index(((1, 1), (2, 0))), "broken"))

    def test_the_total_0(self):
        self.assertEqual(chances_fault(FULL, 1, tuple((stand, 0) for stand, _ in ROWS)), (0, "total"))
        self.assertEqual(chances_fault(FULL, 1, (((), 0), *ROWS[1:])), (0, "total"))
        self.assertEqual(chances_fault(Book(0, []), 0, (((), 0),)), (0, "total"))
        self.assertEqual(chances_fault(Book(0, [()]), 0, (((), 0),)), (0, "total"))

    def test_splits(self):
        for number, place in ((3, ((), 1)), (1, ((), 1)), (10 ** 59, ((), 1))):
            self.assertEqual(chances_fault(FULL, 1, (((), number), *ROWS[1:])), (place, "split"))
        for at, name in ((1, 1), (2, 1), (3, 2), (4, 2)):
            rows = ROWS[:at] + ((ROWS[at][0], 2),) + ROWS[at + 1:]
            self.assertEqual(chances_fault(FULL, 1, rows), (((), name), "split"))
        # At the stand ((2, 0),) the name 1 does not split; before it comes ((1, 0),) with the name 2.
        numbers = dict(chancerows.counted(Book(2, []), 2, all_fillings(2)))
        numbers[((1, 0), (2, 0))] = 2
        rows = tuple((stand, numbers[stand]) for stand in all_stands(2))
        self.assertEqual(chances_fault(Book(2, []), 2, rows), ((((1, 0),), 2), "split"))
        numbers[((1, 0), (2, 1))] = 0
        rows = tuple((stand, numbers[stand]) for stand in all_stands(2))
        self.assertEqual(chances_fault(Book(2, []), 2, rows), ((((2, 0),), 1), "split"))

    def test_the_first_of_several_faults(self):
        rows = (((), 0), (((1, 0),), 1), (((1, 1),), -1), (((2, 0),), 1), (((2, 1),), 1))
        self.assertEqual(chances_fault(BOOK, 1, rows), (1, "broken"))
        self.assertEqual(chances_fault(BOOK, 1, rows[:4]), (4, "row"))
        self.assertEqual(chances_fault(FULL, 1, rows), (2, "below"))
        self.assertEqual(chances_fault(FULL, 1, (((), 0), *ROWS[1:4], (((2, 1),), 5))), (0, "total"))

    def test_chances_with_places_changed(self):
        source = random.Random(541)
        kinds = {}
        for book in sample_books(542, 70) + [full_book(4), Book(4, [((1, 0), (4, 1))])]:
            for bound in range(book.names + 1):
                rows = chances(book, bound) or ()
                for _ in range(8):
                    changed = chancerows.spoiled_pairs(source, book, rows)
                    if source.random() < 0.5:
                        changed = chancerows.spoiled_together(source, book, bound, rows)
                    other = max(bound + source.choice((-1, 0, 0, 0, 0, 0, 1)), 0)
                    found = chances_fault(book, other, changed)
                    self.assertEqual(found, chancerows.chances_fault(book, other, changed))
                    kinds[found and found[1]] = kinds.get(found and found[1], 0) + 1
        self.assertEqual(set(kinds), {None, "row", "below", "broken", "total", "split"})

    def test_long_numbers(self):
        number = 10 ** 60 - 1
        rows = (((), number), (((1, 0),), number - 1), (((1, 1),), 1), (((2, 0),), 0), (((2, 1),), number))
        self.assertIsNone(chances_fault(Book(2, []), 1, rows))
        self.assertEqual(chances_fault(Book(2, []), 1, rows[:4] + ((((2, 1),), number - 1),)), (((), 2), "split"))


class Chances(unittest.TestCase):

    def check(self, book, bound):
        """Whether there are weights; that there are no chances besides follows, since both are checked."""
        kind, thing = chance_either(book, bound)
        self.assertTrue(plain(thing))
        self.assertLess(max(abs(number) for _, number in thing), 10 ** 60)
        if kind == "paper":
            self.assertIsNone(chances(book, bound))
            self.assertEqual(weights(book, bound), thing)
            self.assertIsNone(chancerows.weights_fault(book, bound, thing))
            self.assertIsNone(weights_fault(book, bound, thing))
            return True
        self.assertEqual(kind, "liar")
        self.assertIsNone(weights(book, bound))
        self.assertEqual(chances(book, bound), thing)
        self.assertIsNone(chancerows.chances_fault(book, bound, thing))
        self.assertIsNone(chances_fault(book, bound, thing))
        return False

    def check_book(self, book):
        bounds = [*range(book.names + 2), GREAT, 10 ** 39]
        found = [bound for bound in bounds if self.check(book, bound)]
        measure = least_chance(book)
        self.assertEqual(measure is None, kept(book))
        self.assertEqual(found, [] if measure is None else [bound for bound in bounds if bound >= measure])
        return measure

    def test_the_example(self):
        self.assertEqual(least_chance(FULL), 2)
        self.assertEqual(self.check_book(FULL), 2)

    def test_ordinary_books(self):
        self.assertEqual(self.check_book(BOOK), 2)
        self.assertEqual(self.check_book(Book(1, [((1, 0),), ((1, 1),)])), 1)
        self.assertEqual(self.check_book(Book(0, [()])), 0)
        self.assertEqual(self.check_book(Book(4, [(), ((2, 0),)])), 0)
        self.assertEqual(self.check_book(chain_book(4)), 2)
        self.assertEqual([self.check_book(full_book(size)) for size in range(5)], [0, 1, 2, 3, 4])
        for names in range(5):
            self.assertIsNone(self.check_book(Book(names, [])))

    def test_all_small_books(self):
        for book in small_books():
            self.check_book(book)

    def test_books_of_three_names_with_few_wishes(self):
        for many in (1, 2):
            for wishes in list(itertools.combinations(all_stands(3), many))[::3]:
                self.check_book(Book(3, wishes))

    def test_books_by_chance(self):
        source = random.Random(543)
        measures = set()
        for wide in ((0, 4), (1, 1), (1, 2), (2, 2), (1, 3), (2, 3), (3, 3), (1, 4), (2, 4), (4, 4)):
            for many in (4, 7, 11, 16, 24, 40):
                measures.add(self.check_book(random_book(source, 4, many, *wide)))
        for book in sample_books(544, 60):
            self.check_book(book)
        self.assertEqual(measures, {None, 0, 1, 2, 3})

    def test_books_that_lose_their_last_filling(self):
        # For each filling a wish that it breaks, as wide as can be, or less.
        source = random.Random(545)
        measures = set()
        for _ in range(60):
            wishes = [random_wish(source, 4, 2, 3) for _ in range(source.randint(0, 6))]
            book = Book(4, wishes)
            for filling in all_fillings(4):
                if not broken(book, filling):
                    row = source.sample(filling, source.choice((2, 3, 3, 4)))
                    book = book | Book(4, [tuple((x, 1 - v) for x, v in row)])
            measures.add(self.check_book(book))
            self.assertLessEqual(least_chance(book), least_sum(book, 0))
        self.assertLessEqual({2, 3, 4}, measures)

    def test_books_of_narrow_wishes_that_lose_their_last_filling(self):
        # For many of them weights need stands that are not broken, and take several of them in turn.
        source = random.Random(546)
        for _ in range(120):
            book = Book(4, [random_wish(source, 4, 2, 3) for _ in range(source.randint(0, 6))])
            for filling in all_fillings(4):
                if not broken(book, filling):
                    row = source.sample(filling, source.choice((2, 2, 3, 3)))
                    book = book | Book(4, [tuple((x, 1 - v) for x, v in row)])
            for bound in (1, 2, 3):
                self.check(book, bound)

    def test_weights_with_stands_that_are_not_broken(self):
        wishes = [((1, 0), (2, 1)), ((1, 0), (4, 1)), ((1, 1), (2, 1), (3, 0)), ((1, 1), (3, 0), (4, 1)),
                  ((1, 1), (3, 1)), ((2, 0), (4, 0))]
        book = Book(4, wishes)
        # Weights of broken stands alone would give a sum over 0 of the same degree.
        self.assertEqual((self.check_book(book), least_sum(book, 0)), (3, 4))
        self.assertTrue([stand for stand, number in weights(book, 3) if not broken(book, stand)])

    def test_all_wishes_of_one_width(self):
        for names in range(5):
            for width in range(names + 1):
                book = Book(names, [stand for stand in all_stands(names) if len(stand) == width])
                self.assertEqual(self.check_book(book), width)

    def test_equal_books_and_books_after_others(self):
        again = Book(2, [[(2, 0)], [(2, 1), (1, 0)], [(1, 1)], [(1, 1)]])
        for bound in (0, 1, 2, GREAT):
            first = chance_either(BOOK, bound)
            chance_either(full_book(3), bound)
            self.assertEqual((chance_either(BOOK, bound), chance_either(again, bound)), (first, first))

    def test_too_many_names(self):
        for names in (5, 6, 40):
            for book in (Book(names, []), Book(names, [()])):
                self.assertEqual(told(least_chance, book), raised("TooLarge", names, 4))
                for bound in (0, 2, GREAT):
                    self.assertEqual(told(chance_either, book, bound), raised("TooLarge", names, 4))
                    self.assertEqual(told(chances, book, bound), raised("TooLarge", names, 4))
                    self.assertEqual(told(chances_fault, book, bound, ()), raised("TooLarge", names, 4))


if __name__ == "__main__":
    unittest.main()
