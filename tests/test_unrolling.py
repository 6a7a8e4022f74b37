"""Points 73 to 76 and the interface of unrolling."""

import random
import unittest

from papersorliars.books import Book
from papersorliars.unrolling import flat_lines, price, unrolled
from tests.helpers import add, chain_book, full_book, plain, raised, sample_books, told
from tests.linepapers import grown, ladder, leaves_of, papers
from tests.rowpapers import chain_rows, right_rows, rows_fault, spoiled_rows

# The wishes are ((1, 0), (2, 1)), ((1, 1),) and ((2, 0),).
BOOK = Book(2, [((1, 0), (2, 1)), ((1, 1),), ((2, 0),)])
FIRST = (((1, 0),), 2, ("wish", 0), ("wish", 2))
LAST = ((), 1, ("wish", 1), ("line", 0))
ROWS = (FIRST, LAST)
UNROLLED = ("from", 1, (), ("wish", 1), ("from", 2, ((1, 0),), ("wish", 0), ("wish", 2)))


def form(rows, source):
    """The unrolled form of a source, by the words of point 73."""
    if source[0] == "wish":
        return ("wish", source[1])
    line, name, left, right = rows[source[1]]
    return ("from", name, line, form(rows, left), form(rows, right))


def flat(paper):
    """The rows of point 75."""
    rows = []

    def source(node):
        if node[0] == "wish":
            return ("wish", node[1])
        b = source(node[3])
        c = source(node[4])
        row = (node[2], node[1], b, c)
        if row not in rows:
            rows.append(row)
        return ("line", rows.index(row))

    source(paper)
    return tuple(rows)


def doubled(many):
    """Rows each of which uses the one before it twice, of a book with the wish without words."""
    rows = [((), 1, ("wish", 0), ("wish", 0))]
    while len(rows) < many:
        rows.append(((), 1, ("line", len(rows) - 1), ("line", len(rows) - 1)))
    return tuple(rows)


class Unrolled(unittest.TestCase):

    def test_the_example_of_the_document(self):
        self.assertEqual(price(BOOK, ROWS), 3)
        self.assertEqual(unrolled(BOOK, ROWS), UNROLLED)
        self.assertEqual(flat_lines(BOOK, UNROLLED), ROWS)

    def test_no_rows(self):
        for book in (Book(0, [()]), Book(3, [(), ((1, 0),)])):
            self.assertEqual(price(book, ()), 1)
            self.assertEqual(unrolled(book, ()), ("wish", 0))

    def test_rows_that_are_not_needed(self):
        rows = (FIRST, FIRST, ((), 1, ("wish", 1), ("line", 1)))
        self.assertEqual((price(BOOK, rows), unrolled(BOOK, rows)), (3, UNROLLED))
        # The row 1 has a price of its own that does not count.
        idle = (((2, 1),), 1, ("wish", 1), ("wish", 0))
        rows = (FIRST, idle, LAST)
        self.assertEqual((price(BOOK, rows), unrolled(BOOK, rows)), (3, UNROLLED))

    def test_rows_that_are_used_several_times(self):
        book = Book(3, BOOK.wishes)
        rows = ROWS + (((), 3, ("line", 1), ("line", 1)),)
        self.assertEqual(price(book, rows), 6)
        self.assertEqual(unrolled(book, rows), ("from", 3, (), UNROLLED, UNROLLED))
        rows = ROWS + (((), 3, ("line", 1), ("line", 1)), ((), 2, ("line", 2), ("line", 1)))
        self.assertEqual(price(book, rows), 9)
        self.assertEqual(unrolled(book, rows), form(rows, ("line", 3)))

    def test_papers_of_many_books(self):
        source = random.Random(361)
        for book, rows in right_rows(source, sample_books(362, 60) + [chain_book(5), full_book(4)], 4):
            expected = form(rows, ("line", len(rows) - 1)) if rows else ("wish", 0)
            if leaves_of(expected) <= 4000:
                found = unrolled(book, rows)
                self.assertEqual(found, expected)
                self.assertTrue(plain(found))
            self.assertEqual(price(book, rows), leaves_of(expected))

    def test_very_large_prices(self):
        book = Book(1, [()])
        for many in (1, 5, 11, 12, 13, 100, 4000):
            rows = doubled(many)
            self.assertEqual(price(book, rows), 1 << many)
            if many > 11:
                self.assertEqual(told(unrolled, book, rows), raised("TooLarge", 1 << many, 4000))
            else:
                self.assertEqual(leaves_of(unrolled(book, rows)), 1 << many)

    def test_great_rows_that_are_not_needed(self):
        book = Book(1, [()])
        rows = doubled(3000) + (((), 1, ("line", 1), ("wish", 0)),)
        self.assertEqual(price(book, rows), 5)
        self.assertEqual(unrolled(book, rows), form(rows, ("line", 3000)))

    def test_the_limit(self):
        # 4,000 leaves: 2,048, 1,024, 512, 256, 128 and 32 together.
        book = Book(1, [()])
        rows = list(doubled(11))
        for exact, parts in ((4000, (10, 9, 8, 7, 6, 4)), (4001, (10, 9, 8, 7, 6, 4, None)),
                             (3999, (10, 9, 8, 7, 6, 3, 2, 1, 0, None))):
            more = list(rows)
            last = ("line", parts[0])
            for part in parts[1:]:
                more.append(((), 1, last, ("wish", 0) if part is None else ("line", part)))
                last = ("line", len(more) - 1)
            self.assertEqual(price(book, tuple(more)), exact)
            if exact > 4000:
                self.assertEqual(told(unrolled, book, tuple(more)), raised("TooLarge", exact, 4000))
            else:
                self.assertEqual(leaves_of(unrolled(book, tuple(more))), exact)

    def test_nested_100_deep(self):
        book = Book(1, [()])
        for side in (0, 1):
            rows = []
            for at in range(99):
                sides = [("line", at - 1) if at else ("wish", 0), ("wish", 0)]
                rows.append(((), 1, sides[side], sides[1 - side]))
            found = unrolled(book, tuple(rows))
            self.assertEqual(found, ladder([1] * 99, side))
            self.assertEqual(price(book, tuple(rows)), 100)

    def test_a_long_chain(self):
        book = chain_book(40)
        rows = chain_rows(book)
        self.assertEqual(price(book, rows), 41)
        self.assertEqual(unrolled(book, rows), form(rows, ("line", 39)))

    def test_rows_with_a_fault(self):
        for call in (price, unrolled):
            self.assertEqual(told(call, BOOK, ()), raised("BadPaper", 0, "end"))
            self.assertEqual(told(call, BOOK, (FIRST,)), raised("BadPaper", 1, "end"))
            self.assertEqual(told(call, BOOK, (LAST, FIRST)), raised("BadPaper", 0, "source"))
            self.assertEqual(told(call, Book(2, []), doubled(20)), raised("BadPaper", 0, "source"))
        source = random.Random(363)
        for book, rows in right_rows(source, sample_books(364, 25)):
            changed = spoiled_rows(source, book, rows)
            fault = rows_fault(book, changed)
            if fault is not None:
                self.assertEqual(told(price, book, changed), raised("BadPaper", *fault))
                self.assertEqual(told(unrolled, book, changed), raised("BadPaper", *fault))


class Flat(unittest.TestCase):

    def check(self, book, paper):
        rows = flat_lines(book, paper)
        self.assertTrue(plain(rows))
        self.assertEqual(rows, flat(paper))
        self.assertIsNone(rows_fault(book, rows))
        self.assertEqual(price(book, rows), leaves_of(paper))
        self.assertEqual(unrolled(book, rows), paper)
        return rows

    def test_a_leaf(self):
        self.assertEqual(self.check(Book(0, [()]), ("wish", 0)), ())
        self.assertEqual(self.check(Book(3, [(), ((1, 0),)]), ("wish", 0)), ())

    def test_nodes_that_stand_twice(self):
        book = Book(3, BOOK.wishes)
        self.assertEqual(self.check(book, ("from", 3, (), UNROLLED, UNROLLED)),
                         ROWS + (((), 3, ("line", 1), ("line", 1)),))
        inner = ("from", 2, ((1, 0),), ("wish", 0), ("wish", 2))
        paper = ("from", 3, (), ("from", 1, (), ("wish", 1), inner), ("from", 1, (), inner, inner))
        self.assertEqual(told(flat_lines, book, paper), raised("BadPaper", (1,), "left"))
        paper = ("from", 1, (), ("wish", 1), ("from", 3, ((1, 0),), inner, inner))
        self.assertEqual(self.check(book, paper), (FIRST, (((1, 0),), 3, ("line", 0), ("line", 0)),
                                                   ((), 1, ("wish", 1), ("line", 1))))

    def test_nodes_that_differ_in_one_place(self):
        # The lines, the names or the sources differ, so each node is a row of its own.
        book = Book(3, BOOK.wishes)
        inner = ("from", 2, ((1, 0),), ("wish", 0), ("wish", 2))
        wide = ("from", 2, ((1, 0), (3, 1)), ("wish", 0), ("wish", 2))
        paper = ("from", 1, (), ("wish", 1), ("from", 3, ((1, 0),), wide, inner))
        self.assertEqual(len(self.check(book, paper)), 4)
        book = Book(2, [(), ((1, 0),), ((1, 1),)])
        paper = ("from", 2, (), ("from", 1, (), ("wish", 2), ("wish", 1)), ("from", 1, (), ("wish", 0), ("wish", 1)))
        self.assertEqual(len(self.check(book, paper)), 3)
        paper = ("from", 2, (), ("from", 1, (), ("wish", 0), ("wish", 0)), ("from", 2, (), ("wish", 0), ("wish", 0)))
        self.assertEqual(len(self.check(book, paper)), 3)

    def test_the_left_side_comes_first(self):
        book = Book(2, [((1, 0),), ((1, 1),), ((2, 0),), ((2, 1),)])
        one = ("from", 1, (), ("wish", 1), ("wish", 0))
        two = ("from", 2, (), ("wish", 3), ("wish", 2))
        self.assertEqual([row[1] for row in self.check(book, ("from", 1, (), one, two))], [1, 2, 1])
        self.assertEqual([row[1] for row in self.check(book, ("from", 1, (), two, one))], [2, 1, 1])

    def test_line_trees_of_many_books(self):
        count = 0
        for book, paper in papers(365, 60, [chain_book(5), full_book(4)]):
            count += len(self.check(book, paper)) < leaves_of(paper) - 1
        self.assertGreater(count, 10)

    def test_great_line_trees(self):
        book = Book(40, [()])
        for leaves in (3999, 4000):
            self.check(book, grown(leaves, list(range(1, 41))))
        more = grown(4001, list(range(1, 41)))
        rows = flat_lines(book, more)
        self.assertEqual(price(book, rows), 4001)
        self.assertEqual(told(unrolled, book, rows), raised("TooLarge", 4001, 4000))

    def test_nested_100_deep(self):
        for side in (0, 1):
            self.check(Book(2, [()]), ladder([1, 2] * 49 + [1], side))

    def test_line_trees_with_a_fault(self):
        for paper, place, kind in ((("wish", 3), (), "wish"), (("wish", 1), (), "end"),
                                   (("from", 3, (), UNROLLED, UNROLLED), (), "name"),
                                   (("from", 1, (), ("wish", 1), ("wish", 1)), (), "right"),
                                   (("from", 1, ((2, 7),), ("wish", 9), ("wish", 1)), (0,), "wish"),
                                   (("from", 1, add((), 2, 7), ("wish", 0), ("wish", 1)), (), "line")):
            self.assertEqual(told(flat_lines, BOOK, paper), raised("BadPaper", place, kind))

    def test_both_turnings_of_rows(self):
        # Flat rows of the unrolled form are the needed rows, each once.
        source = random.Random(366)
        for book, rows in right_rows(source, sample_books(367, 40) + [chain_book(4)], 3):
            if price(book, rows) <= 4000:
                tree = unrolled(book, rows)
                again = flat_lines(book, tree)
                self.assertLessEqual(len(again), len(rows))
                self.assertEqual((unrolled(book, again), price(book, again)), (tree, price(book, rows)))


if __name__ == "__main__":
    unittest.main()
