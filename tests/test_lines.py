"""Points 56 to 58 and the interface of lines."""

import random
import unittest

from papersorliars.books import Book
from papersorliars.lines import lines_fault, lines_width
from tests.helpers import NO_STANDS, all_stands, chain_book, full_book, sample_books
from tests.rowpapers import chain_rows, random_rows, right_rows, rows_fault, some_ends, spoiled_rows, width_of

# The wishes are ((1, 0), (2, 1)), ((1, 1),) and ((2, 0),).
BOOK = Book(2, [((1, 0), (2, 1)), ((1, 1),), ((2, 0),)])
FIRST = (((1, 0),), 2, ("wish", 0), ("wish", 2))
LAST = ((), 1, ("wish", 1), ("line", 0))
ROWS = (FIRST, LAST)


class Fault(unittest.TestCase):

    def test_the_example_of_the_document(self):
        self.assertIsNone(lines_fault(BOOK, ROWS))
        self.assertIsNone(lines_fault(BOOK, ROWS, (), most=1))
        self.assertEqual(lines_fault(BOOK, ROWS, most=0), (0, "wide"))
        self.assertEqual(lines_width(ROWS), 1)

    def test_lines(self):
        for line in (*NO_STANDS, ((3, 0),), ((1, 0), (3, 1)), ((2, 0), (2, 1))):
            self.assertEqual(lines_fault(BOOK, ((line, 9, ("line", 9), ("x", 0)),)), (0, "line"))
            self.assertEqual(lines_fault(BOOK, (FIRST, (line, 1, ("wish", 1), ("line", 0)))), (1, "line"))

    def test_names(self):
        for name in (0, 3, -1, 10 ** 40):
            self.assertEqual(lines_fault(BOOK, (((), name, ("line", 9), ("x", 0)),)), (0, "name"))
            self.assertEqual(lines_fault(BOOK, (FIRST, ((), name, ("wish", 1), ("line", 0)))), (1, "name"))

    def test_names_that_the_line_has(self):
        for value in (0, 1):
            row = (((2, value),), 2, ("line", 9), ("x", 0))
            self.assertEqual(lines_fault(BOOK, (row,)), (0, "asked"))
            row = (((1, value), (2, 0)), 1, ("wish", 1), ("line", 0))
            self.assertEqual(lines_fault(BOOK, (FIRST, row)), (1, "asked"))

    def test_sources(self):
        wrong = [("wish", -1), ("wish", 3), ("wish", 10 ** 40), ("line", -1), ("line", 1), ("line", 2),
                 ("line", 10 ** 40), ("leaf", 0), ("from", 0), ("row", 1), ("lines", 0), ("w", -1)]
        for source in wrong:
            self.assertEqual(lines_fault(BOOK, (FIRST, ((), 1, source, ("line", 0)))), (1, "source"), source)
            self.assertEqual(lines_fault(BOOK, (FIRST, ((), 1, ("wish", 1), source))), (1, "source"), source)
            # The source on the right goes ahead of the words on the left.
            self.assertEqual(lines_fault(BOOK, (FIRST, ((), 1, ("wish", 0), source))), (1, "source"), source)
        for source in (("line", 0), ("line", -1), ("line", 1)):
            self.assertEqual(lines_fault(BOOK, ((((1, 0),), 2, ("wish", 0), source), LAST)), (0, "source"))
        self.assertEqual(lines_fault(Book(2, []), (((), 1, ("wish", 0), ("wish", 0)),)), (0, "source"))

    def test_words_on_the_left(self):
        for row in (((), 1, ("wish", 0), ("wish", 2)), ((), 1, ("wish", 2), ("line", 0)), (((1, 0),), 2, ("wish", 2),
                    ("wish", 2)), ((), 1, ("line", 0), ("line", 0)), ((), 2, ("wish", 1), ("wish", 1))):
            self.assertEqual(lines_fault(BOOK, (FIRST, row)), (1, "left"), row)

    def test_words_on_the_right(self):
        for row in (((), 1, ("wish", 1), ("wish", 1)), ((), 1, ("wish", 1), ("wish", 0)),
                    (((1, 1),), 2, ("wish", 1), ("line", 0))):
            self.assertEqual(lines_fault(BOOK, (FIRST, row)), (1, "right"), row)

    def test_sides_may_lack_words(self):
        # The sources may have fewer words than the line, and may lack the word of the name.
        book = Book(3, [((1, 0),), ((1, 1),), ((2, 1),)])
        rows = ((((3, 0),), 2, ("wish", 0), ("wish", 0)), (((2, 1),), 3, ("wish", 2), ("wish", 2)),
                ((), 1, ("wish", 1), ("wish", 0)))
        self.assertEqual(lines_fault(book, rows), (0, "left"))
        rows = ((((1, 0), (3, 0)), 2, ("wish", 0), ("wish", 0)),) + rows[1:]
        self.assertIsNone(lines_fault(book, rows))

    def test_the_width(self):
        self.assertIsNone(lines_fault(BOOK, ROWS, most=None))
        for most in (1, 2, 10 ** 40):
            self.assertIsNone(lines_fault(BOOK, ROWS, most=most))
        self.assertEqual(lines_fault(BOOK, ROWS, most=0), (0, "wide"))
        wide = (((1, 0), (2, 1)), 3, ("wish", 0), ("wish", 0))
        book = Book(3, BOOK.wishes)
        self.assertEqual(lines_fault(book, (FIRST, wide, LAST), most=1), (1, "wide"))
        self.assertIsNone(lines_fault(book, (FIRST, wide, LAST), most=2))
        self.assertIsNone(lines_fault(book, (FIRST, wide, LAST)))
        # It is looked at behind the other kinds of the same row, and ahead of later rows.
        self.assertEqual(lines_fault(BOOK, (FIRST, ((), 9, ("wish", 1), ("line", 0))), most=0), (0, "wide"))
        self.assertEqual(lines_fault(BOOK, (FIRST[:3] + (("wish", 1),),), most=0), (0, "right"))
        self.assertEqual(lines_fault(BOOK, (FIRST,), most=0), (0, "wide"))
        self.assertEqual(lines_fault(Book(0, [()]), (), most=0), None)

    def test_the_end(self):
        self.assertEqual(lines_fault(BOOK, (FIRST,)), (1, "end"))
        self.assertIsNone(lines_fault(BOOK, (FIRST,), ((1, 0),)))
        self.assertIsNone(lines_fault(BOOK, (FIRST,), ((1, 0), (2, 1))))
        self.assertEqual(lines_fault(BOOK, (FIRST,), ((1, 1),)), (1, "end"))
        self.assertEqual(lines_fault(BOOK, (FIRST,), ((2, 0),)), (1, "end"))
        self.assertEqual(lines_fault(BOOK, (FIRST, LAST, FIRST)), (3, "end"))
        self.assertIsNone(lines_fault(BOOK, (FIRST, LAST), ((2, 0),)))

    def test_no_rows(self):
        self.assertEqual(lines_fault(BOOK, ()), (0, "end"))
        self.assertEqual(lines_fault(Book(3, []), ()), (0, "end"))
        self.assertEqual(lines_fault(Book(3, []), (), ((1, 0), (2, 0))), (0, "end"))
        self.assertIsNone(lines_fault(Book(0, [()]), ()))
        self.assertIsNone(lines_fault(Book(2, [(), ((1, 0),)]), ()))
        self.assertIsNone(lines_fault(Book(2, [(), ((1, 0),)]), (), ((2, 0),)))
        self.assertIsNone(lines_fault(BOOK, (), ((1, 1),)))
        self.assertIsNone(lines_fault(BOOK, (), ((1, 0), (2, 0))))
        self.assertIsNone(lines_fault(BOOK, (), ((1, 0), (2, 1))))
        self.assertEqual(lines_fault(BOOK, (), ((1, 0),)), (0, "end"))
        self.assertEqual(lines_fault(BOOK, (), ((2, 1),)), (0, "end"))
        book = Book(2, [((1, 0), (2, 0)), ((1, 0), (2, 1))])
        self.assertEqual(lines_fault(book, (), ((1, 0),)), (0, "end"))

    def test_the_first_of_several_faults(self):
        bad = (((9, 9),), 9, ("x", 9), ("x", 9))
        self.assertEqual(lines_fault(BOOK, (bad, bad)), (0, "line"))
        self.assertEqual(lines_fault(BOOK, (FIRST, bad)), (1, "line"))
        self.assertEqual(lines_fault(BOOK, (((), 9, ("x", 9), ("x", 9)), bad)), (0, "name"))
        self.assertEqual(lines_fault(BOOK, ((((1, 0),), 1, ("x", 9), ("x", 9)), bad)), (0, "asked"))
        self.assertEqual(lines_fault(BOOK, (((), 1, ("wish", 2), ("wish", 2)), bad)), (0, "left"))
        self.assertEqual(lines_fault(BOOK, (((), 1, ("wish", 1), ("wish", 2)), bad)), (0, "right"))

    def test_books_without_names(self):
        row = ((), 1, ("wish", 0), ("wish", 0))
        self.assertEqual(lines_fault(Book(0, [()]), (row,)), (0, "name"))
        self.assertEqual(lines_fault(Book(0, []), ()), (0, "end"))

    def test_rows_by_chance(self):
        source = random.Random(121)
        count = 0
        for book, rows in right_rows(source, sample_books(122, 60) + [chain_book(5), full_book(4)]):
            self.assertIsNone(rows_fault(book, rows))
            self.assertIsNone(lines_fault(book, rows))
            self.check_width(book, rows)
            count += len(rows) > 2
        self.assertGreater(count, 40)

    def check_width(self, book, rows):
        width = width_of(rows)
        self.assertEqual(lines_width(rows), width)
        for most in (width - 1, width, width + 1, 10 ** 40):
            if most >= 0:
                self.assertEqual(lines_fault(book, rows, most=most), rows_fault(book, rows, (), most))
                self.assertEqual(lines_fault(book, rows, most=most) is None, most >= width)

    def test_ends_by_chance(self):
        source = random.Random(123)
        found = {None: 0, "end": 0}
        for book in sample_books(124, 60):
            for end in some_ends(source, book):
                rows = random_rows(source, book, end)
                if rows is not None:
                    self.assertIsNone(lines_fault(book, rows, end))
                    for other in all_stands(book.names):
                        fault = lines_fault(book, rows, other)
                        self.assertEqual(fault, rows_fault(book, rows, other))
                        found[fault and fault[1]] += 1
        self.assertGreater(min(found.values()), 100)

    def test_rows_with_places_changed(self):
        source = random.Random(125)
        kinds = set()
        for book, rows in right_rows(source, sample_books(126, 60) + [chain_book(4)]):
            for _ in range(25):
                changed = spoiled_rows(source, book, rows)
                if source.random() < 0.4:
                    changed = spoiled_rows(source, book, changed)
                most = source.choice((None, None, 0, 1, 2))
                end = source.choice(((), (), ((1, 0),) if book.names else ()))
                found = lines_fault(book, changed, end, most=most)
                self.assertEqual(found, rows_fault(book, changed, end, most))
                kinds.add(found and found[1])
        self.assertEqual(kinds, {None, "line", "name", "asked", "source", "left", "right", "wide", "end"})

    def test_forty_names_and_many_rows(self):
        book = chain_book(40)
        rows = chain_rows(book)
        self.assertIsNone(lines_fault(book, rows, most=1))
        self.assertEqual(lines_fault(book, rows, most=0), (0, "wide"))
        many = rows[:1] * 3000 + rows[:-1]
        self.assertEqual(lines_fault(book, many), rows_fault(book, many))


class Width(unittest.TestCase):

    def test_the_width_without_rows(self):
        self.assertEqual(lines_width(()), 0)

    def test_nothing_is_checked(self):
        rows = ((((9, 9), (9, 9), (0, 5)), -4, ("x", 9), ("y", -1)), ((), 0, ("line", 7), ("line", 7)))
        self.assertEqual(lines_width(rows), 3)
        self.assertEqual(lines_width(rows[1:]), 0)


if __name__ == "__main__":
    unittest.main()
