"""Points 16, 18 and 59 to 62 and the interface of kept."""

import random
import unittest

from papersorliars.books import Book
from papersorliars.kept import joined_keep_liar, keep_either, keep_liar, keep_liar_fault, kept_lines, least_kept
from tests.helpers import (
    NO_STANDS, add, all_fillings, all_stands, broken, chain_book, free, full_book, kept, plain, raised, random_book,
    right_row, sample_books, spoiled_stands, told,
)
from tests.least import bounds_around, small_books
from tests.rowpapers import rows_fault

# The wishes are ((1, 0), (2, 1)), ((1, 1),) and ((2, 0),).
BOOK = Book(2, [((1, 0), (2, 1)), ((1, 1),), ((2, 0),)])


def less(stand):
    """The stands that come from a stand by leaving out one answer."""
    return [stand[:at] + stand[at + 1:] for at in range(len(stand))]


def stuck(book, bound, stands, stand):
    return len(stand) <= bound and any(
        add(stand, name, 0) not in stands and add(stand, name, 1) not in stands for name in free(book, stand))


def fault(book, bound, stands):
    """The first fault by the words of points 59 and 61."""
    for at, stand in enumerate(stands):
        if not right_row(book.names, stand):
            return (stand, "stand")
        if at and not stand > stands[at - 1]:
            return (stand, "order")
        if len(stand) > bound + 1:
            return (stand, "long")
        if broken(book, stand):
            return (stand, "broken")
    if () not in stands:
        return ((), "empty")
    present = set(stands)
    for stand in stands:
        if any(other not in present for other in less(stand)):
            return (stand, "open")
        if stuck(book, bound, present, stand):
            return (stand, "stuck")
    return None


def greatest(book, bound):
    """What is left if stands that cannot be in an object are taken away again and again, or None."""
    stands = {stand for stand in all_stands(book.names, bound + 1) if not broken(book, stand)}
    while True:
        bad = {stand for stand in stands
               if stuck(book, bound, stands, stand) or any(other not in stands for other in less(stand))}
        if not bad:
            return tuple(sorted(stands)) if () in stands else None
        stands -= bad


def least(book):
    """The least bound without an object, or None."""
    for bound in range(book.names + 1):
        if greatest(book, bound) is None:
            return bound
    return None


class Either(unittest.TestCase):

    def check(self, book, bound, expected):
        """Checks all that is there for the bound; `expected` is the greatest object or None."""
        rows, stands = kept_lines(book, bound), keep_liar(book, bound)
        self.assertEqual(stands, expected)
        if expected is None:
            self.assertEqual(keep_either(book, bound), ("paper", rows))
            self.check_rows(book, bound, rows)
        else:
            self.assertIsNone(rows)
            self.assertEqual(keep_either(book, bound), ("liar", stands))
            self.assertTrue(plain(stands))
            self.assertIsNone(keep_liar_fault(book, bound, stands))

    def check_rows(self, book, bound, rows):
        self.assertTrue(plain(rows))
        self.assertIsNone(rows_fault(book, rows, (), bound))
        lines = [row[0] for row in rows]
        self.assertEqual(len(set(lines)), len(lines))

    def check_book(self, book):
        measure = least(book)
        self.assertEqual(least_kept(book), measure)
        self.assertEqual(measure is None, kept(book))
        for bound in bounds_around(measure):
            expected = greatest(book, bound)
            self.assertEqual(expected is None, measure is not None and measure <= bound)
            self.check(book, bound, expected)

    def test_the_examples_of_the_document(self):
        self.assertEqual(keep_liar(BOOK, 0), ((), ((1, 1),), ((2, 0),)))
        self.assertIsNone(kept_lines(BOOK, 0))
        self.assertEqual(least_kept(BOOK), 1)
        self.assertIsNone(keep_liar(BOOK, 1))
        self.check_rows(BOOK, 1, kept_lines(BOOK, 1))

    def test_books_without_names(self):
        kept_book, empty = Book(0, []), Book(0, [()])
        self.assertEqual((least_kept(kept_book), least_kept(empty)), (None, 0))
        for bound in (0, 1, 5, 10 ** 40):
            self.assertEqual(keep_either(kept_book, bound), ("liar", ((),)))
            self.assertEqual((kept_lines(kept_book, bound), keep_liar(kept_book, bound)), (None, ((),)))
            self.assertEqual(keep_either(empty, bound), ("paper", ()))
            self.assertEqual((kept_lines(empty, bound), keep_liar(empty, bound)), ((), None))

    def test_the_wish_without_words(self):
        book = Book(3, [((1, 0),), (), ((2, 1), (3, 0))])
        self.assertEqual((least_kept(book), keep_either(book, 0)), (0, ("paper", ())))
        self.assertEqual(keep_either(book, 10 ** 40), ("paper", ()))

    def test_all_small_books(self):
        for book in small_books():
            self.check_book(book)

    def test_books_by_chance(self):
        source = random.Random(131)
        books = sample_books(132, 50) + [chain_book(4), chain_book(5), full_book(4)]
        books += [random_book(source, 4, many, 1, 3) for many in (6, 9, 12, 15, 18, 24) for _ in range(3)]
        measures = set()
        for book in books:
            self.check_book(book)
            measures.add(least_kept(book))
        self.assertEqual(measures, {None, 0, 1, 2, 3})

    def test_the_width_of_full_books_and_chains(self):
        for size in range(1, 7):
            self.assertEqual(least_kept(full_book(size)), size - 1)
            self.assertEqual(least_kept(chain_book(size)), min(size - 1, 1))

    def test_six_names(self):
        source = random.Random(133)
        many = Book(6, all_fillings(6)[:63])
        self.assertEqual((least_kept(many), kept_lines(many, 6)), (None, None))
        books = [full_book(6), many, chain_book(6), random_book(source, 6, 100, 2, 4), random_book(source, 6, 40, 2, 3)]
        while len(books[-1].wishes) < 128:
            books[-1] = books[-1] | Book(6, [random_book(source, 6, 1, 3, 6).wishes[0]])
        for book in books:
            measure = least_kept(book)
            for bound in (0, 1, 2, 5, 6, 10 ** 40 - 1):
                expected = None if measure is not None and measure <= bound else greatest(book, bound)
                self.check(book, bound, expected)
                if expected is not None and bound < 3:
                    self.assertIsNone(fault(book, bound, expected))

    def test_too_many_names(self):
        for names in (7, 40):
            for book in (Book(names, []), Book(names, [()]), chain_book(names)):
                self.assertEqual(told(least_kept, book), raised("TooLarge", names, 6))
                for bound in (0, 3, 10 ** 40):
                    for call in (kept_lines, keep_liar, keep_either):
                        self.assertEqual(told(call, book, bound), raised("TooLarge", names, 6))

    def test_equal_books_and_books_after_others(self):
        again = Book(2, [[(2, 0)], [(2, 1), (1, 0)], [(1, 1)], [(1, 1)]])
        for bound in (0, 1):
            first = keep_either(BOOK, bound)
            keep_either(full_book(3), bound)
            self.assertEqual(keep_either(BOOK, bound), first)
            self.assertEqual(keep_either(again, bound), first)
            self.assertEqual((kept_lines(again, bound), keep_liar(again, bound)),
                             (kept_lines(BOOK, bound), keep_liar(BOOK, bound)))
        # The same wishes over more names are another book.
        self.assertNotEqual(keep_either(Book(3, BOOK.wishes), 0), keep_either(BOOK, 0))

    def test_no_object_for_a_paper(self):
        # No object has a stand that is not in the greatest one: all objects of two names.
        stands = all_stands(2, 2)
        for book in (BOOK, full_book(2), Book(2, [((1, 0), (2, 0))]), Book(2, []), chain_book(2)):
            for bound in (0, 1):
                rights = []
                for number in range(1 << len(stands)):
                    row = tuple(stand for at, stand in enumerate(stands) if number >> at & 1)
                    if fault(book, bound, row) is None:
                        rights.append(row)
                expected = tuple(sorted({stand for row in rights for stand in row})) or None
                self.assertEqual(keep_liar(book, bound), expected)


class Fault(unittest.TestCase):

    def test_right_objects(self):
        self.assertIsNone(keep_liar_fault(BOOK, 0, ((), ((1, 1),), ((2, 0),))))
        self.assertIsNone(keep_liar_fault(Book(0, []), 0, ((),)))
        self.assertIsNone(keep_liar_fault(Book(1, []), 0, ((), ((1, 0),))))
        self.assertIsNone(keep_liar_fault(Book(1, []), 5, ((), ((1, 1),))))
        whole = tuple(all_stands(2))
        self.assertIsNone(keep_liar_fault(Book(2, []), 1, whole))
        self.assertIsNone(keep_liar_fault(Book(2, []), 10 ** 40, whole))

    def test_no_stands(self):
        book = Book(3, [])
        for stand in NO_STANDS:
            self.assertEqual(keep_liar_fault(book, 5, (stand,)), (stand, "stand"))
            self.assertEqual(keep_liar_fault(book, 5, ((), stand)), (stand, "stand"))
        self.assertEqual(keep_liar_fault(BOOK, 0, ((), ((3, 0),))), (((3, 0),), "stand"))

    def test_the_order(self):
        one, two = ((1, 0),), ((1, 1),)
        for row, bad in (((one, ()), ()), (((), two, one), one), (((), one, one), one), (((), ()), ())):
            self.assertEqual(keep_liar_fault(Book(2, []), 0, row), (bad, "order"))

    def test_long_stands(self):
        book = Book(3, [])
        stand = ((1, 0), (2, 0))
        self.assertEqual(keep_liar_fault(book, 0, (stand,)), (stand, "long"))
        self.assertEqual(keep_liar_fault(book, 1, (stand,)), ((), "empty"))
        stand = ((1, 0), (2, 0), (3, 1))
        self.assertEqual(keep_liar_fault(book, 1, ((), stand)), (stand, "long"))
        self.assertEqual(keep_liar_fault(book, 2, ((), stand)), ((), "stuck"))

    def test_broken_stands(self):
        self.assertEqual(keep_liar_fault(BOOK, 0, ((), ((1, 0),), ((1, 1),))), (((1, 0),), "broken"))
        self.assertEqual(keep_liar_fault(BOOK, 1, (((1, 1), (2, 0)),)), (((1, 1), (2, 0)), "broken"))
        self.assertEqual(keep_liar_fault(Book(0, [()]), 0, ((),)), ((), "broken"))

    def test_the_stand_without_answers(self):
        self.assertEqual(keep_liar_fault(BOOK, 0, ()), ((), "empty"))
        self.assertEqual(keep_liar_fault(BOOK, 0, (((1, 1),),)), ((), "empty"))
        self.assertEqual(keep_liar_fault(Book(0, []), 0, ()), ((), "empty"))

    def test_open_stands(self):
        book = Book(2, [])
        stand = ((1, 0), (2, 1))
        # First ((1, 0),) is not among them, then ((2, 1),) is not.
        row = ((), stand, ((1, 1),), ((1, 1), (2, 0)), ((2, 0),))
        self.assertEqual(keep_liar_fault(book, 1, row), (stand, "open"))
        row = ((), ((1, 0),), stand, ((2, 0),))
        self.assertEqual(keep_liar_fault(book, 1, row), (stand, "open"))
        self.assertEqual(keep_liar_fault(book, 1, ((), stand, ((2, 1),))), ((), "stuck"))
        # A stand that is open and stuck is open.
        book = Book(3, [])
        row = ((), ((1, 0),), ((1, 0), (2, 1)), ((1, 0), (3, 0)), ((2, 0),), ((3, 0),))
        self.assertEqual(keep_liar_fault(book, 2, row), (((1, 0), (2, 1)), "open"))

    def test_stuck_stands(self):
        self.assertEqual(keep_liar_fault(BOOK, 0, ((),)), ((), "stuck"))
        self.assertEqual(keep_liar_fault(BOOK, 0, ((), ((1, 1),))), ((), "stuck"))
        self.assertEqual(keep_liar_fault(Book(2, []), 1, ((), ((1, 0),), ((2, 0),))), (((1, 0),), "stuck"))
        # With exactly `bound` answers a stand is looked at, with one more it is not.
        self.assertIsNone(keep_liar_fault(Book(2, []), 0, ((), ((1, 0),), ((2, 0),))))

    def test_the_first_of_several_faults(self):
        book = Book(3, [((1, 0),)])
        bad, long, wrong = ((9, 9),), ((1, 1), (2, 0), (3, 0)), ((1, 0),)
        broken_one = ((1, 1),)
        self.assertEqual(keep_liar_fault(book, 1, (broken_one, bad)), (broken_one, "broken"))
        self.assertEqual(keep_liar_fault(book, 1, (bad, broken_one)), (bad, "stand"))
        self.assertEqual(keep_liar_fault(book, 1, (long, wrong)), (long, "long"))
        self.assertEqual(keep_liar_fault(book, 1, (((2, 0),), long)), (long, "order"))
        self.assertEqual(keep_liar_fault(book, 1, (((2, 0), (3, 0)), broken_one)), (broken_one, "order"))
        self.assertEqual(keep_liar_fault(book, 1, (((2, 0), (3, 0)),)), ((), "empty"))
        # The place of `open` in the second round goes ahead of `stuck` at a later stand, and behind it at an earlier.
        self.assertEqual(keep_liar_fault(book, 1, ((), ((2, 0), (3, 0)))), ((), "stuck"))

    def test_objects_with_places_changed(self):
        source = random.Random(134)
        kinds = set()
        books = [book for book in sample_books(135, 60) if () not in book.wishes] + [chain_book(4), full_book(4)]
        for book in books:
            for bound in range(3):
                stands = greatest(book, bound)
                if stands is None:
                    continue
                self.assertIsNone(keep_liar_fault(book, bound, stands))
                for _ in range(12):
                    changed = spoiled_stands(source, book, stands)
                    other = max(bound + source.choice((-1, 0, 0, 0, 1)), 0)
                    found = keep_liar_fault(book, other, changed)
                    self.assertEqual(found, fault(book, other, changed))
                    kinds.add(found and found[1])
        self.assertEqual(kinds, {None, "stand", "order", "long", "broken", "empty", "open", "stuck"})

    def test_one_stand_less(self):
        for book, bound in ((Book(3, []), 1), (chain_book(3), 0), (full_book(3), 1)):
            stands = keep_liar(book, bound)
            for at in range(len(stands)):
                row = stands[:at] + stands[at + 1:]
                self.assertEqual(keep_liar_fault(book, bound, row), fault(book, bound, row))

    def test_forty_names(self):
        # There is no limit of names for the check.
        book = chain_book(40)
        stands = [stand for stand in all_pairs(40) if not broken(book, stand)]
        row = tuple(sorted([(), *stands]))
        self.assertIsNone(keep_liar_fault(book, 0, row))
        self.assertEqual(keep_liar_fault(book, 0, row[1:]), ((), "empty"))
        self.assertEqual(keep_liar_fault(book, 1, row), (((1, 1),), "stuck"))


def all_pairs(names):
    return [((x, v),) for x in range(1, names + 1) for v in (0, 1)]


def moved(stand, by):
    return tuple((x + by, v) for x, v in stand)


def joined(book, bound, stands, others):
    """The stands of point 62."""
    rows = [stand + moved(other, book.names) for stand in stands for other in others]
    return tuple(sorted(row for row in rows if len(row) <= bound + 1))


class Joined(unittest.TestCase):

    def test_an_ordinary_pair(self):
        stands = ((), ((1, 1),), ((2, 0),))
        expected = ((), ((1, 1),), ((2, 0),), ((3, 1),), ((4, 0),))
        self.assertEqual(joined_keep_liar(BOOK, BOOK, 0, stands, stands), expected)
        self.assertEqual(joined_keep_liar(BOOK, Book(0, []), 0, stands, ((),)), stands)
        self.assertEqual(joined_keep_liar(Book(0, []), BOOK, 0, ((),), stands), stands)

    def test_pairs_of_books(self):
        books = [book for book in sample_books(136, 25, 2)] + [full_book(3)]
        for first in books:
            for second in books:
                for bound in (0, 1, 2, 10 ** 40):
                    stands, others = keep_liar(first, bound), keep_liar(second, bound)
                    if stands is None or others is None:
                        continue
                    found = joined_keep_liar(first, second, bound, stands, others)
                    self.assertEqual(found, joined(first, bound, stands, others))
                    self.assertTrue(plain(found))
                    self.assertIsNone(keep_liar_fault(first + second, bound, found))

    def test_the_errors_of_the_new_book_go_first(self):
        bad = (((9, 9),),)
        self.assertEqual(told(joined_keep_liar, Book(30, []), Book(11, []), 0, bad, bad), raised("BadNames", 41))
        wide = [tuple((x, v) for x, v in row) for row in all_fillings(7)]
        first, second = Book(7, wide[:100]), Book(7, wide[:60])
        self.assertEqual(told(joined_keep_liar, first, second, 0, bad, bad), raised("TooMany", 160))

    def test_faults(self):
        stands = ((), ((1, 1),), ((2, 0),))
        bad, empty = (((9, 9),),), ()
        self.assertEqual(told(joined_keep_liar, BOOK, BOOK, 0, bad, empty), raised("BadLiar", ((9, 9),), "stand"))
        self.assertEqual(told(joined_keep_liar, BOOK, BOOK, 0, empty, bad), raised("BadLiar", (), "empty"))
        self.assertEqual(told(joined_keep_liar, BOOK, BOOK, 0, stands, bad), raised("BadLiar", ((9, 9),), "stand"))
        self.assertEqual(told(joined_keep_liar, BOOK, BOOK, 0, stands, stands[:2]), raised("BadLiar", (), "stuck"))
        self.assertEqual(told(joined_keep_liar, BOOK, BOOK, 1, stands, stands),
                         raised("BadLiar", ((1, 1),), "stuck"))

    def test_great_books(self):
        # There is no limit of names for two objects put together.
        stands = tuple(sorted([()] + [((x, 0),) for x in range(1, 21)]))
        found = joined_keep_liar(Book(20, []), Book(20, []), 0, stands, stands)
        self.assertEqual(found, tuple(sorted([()] + [((x, 0),) for x in range(1, 41)])))


if __name__ == "__main__":
    unittest.main()
