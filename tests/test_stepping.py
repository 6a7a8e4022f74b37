"""Points 88, 97 and 98 and the interface of stepping."""

import random
import unittest

from papersorliars.books import Book
from papersorliars.kept import kept_lines
from papersorliars.steps import least_steps, step_polys, steps_fault
from papersorliars.stepping import line_steps, sum_steps
from papersorliars.sums import sum_paper, tree_sum
from tests import algebra, steprows
from tests.algebra import FIELDS, NO_FIELDS
from tests.helpers import chain_book, full_book, plain, raised, random_book, random_tree, sample_books, told
from tests.rowpapers import chain_rows, right_rows, width_of

# The wishes are ((1, 0), (2, 1)), ((1, 1),) and ((2, 0),): the polynomials x - xy, 1 - x and y.
BOOK = Book(2, [((1, 0), (2, 1)), ((1, 1),), ((2, 0),)])
PAPER = (1, ((1, (), 0), (1, (), 1), (1, (1,), 2)))
ROWS = ((((1, 0),), 2, ("wish", 0), ("wish", 2)), ((), 1, ("wish", 1), ("line", 0)))


def degree_of(book, paper):
    return max([len(row) + len(book.wishes[index]) for _, row, index in paper[1]])


class Sums(unittest.TestCase):

    def check(self, book, field, paper):
        steps = sum_steps(book, field, paper)
        self.assertTrue(plain(steps))
        most = degree_of(book, paper)
        self.assertIsNone(steps_fault(book, field, steps, most=most))
        self.assertIsNone(steprows.steps_fault(book, field, steps, most))
        self.assertLessEqual(len(steps), 7 * len(paper[1]) + 1)
        for at, step in enumerate(steps):
            if step[0] == "sum":
                self.assertLessEqual(len(step[1]), len(paper[1]) if at == len(steps) - 1 else 500)
                self.assertTrue(field == 0 or all(1 <= number < field for number, _ in step[1]))
        return steps

    def test_an_ordinary_sum(self):
        for field in FIELDS:
            steps = self.check(BOOK, field, PAPER)
            self.assertEqual(step_polys(BOOK, field, steps)[-1].terms, (((), 1),))
            self.check(Book(0, [()]), field, (1, ((1, (), 0),)))
            self.check(Book(5, [()]), field, (11, ((11, (), 0),)))

    def test_rows_with_products_of_several_names(self):
        # (1 - x) (1 - y z u) .. : the wish 1- times all of the other names, and so on.
        book = Book(5, [((1, 0),), ((1, 1),)])
        for field in FIELDS:
            rows = ((1, (), 0), (1, (), 1), (1, (2, 3, 4, 5), 0), (-1, (2, 3, 4, 5), 0))
            steps = self.check(book, field, (1, rows))
            self.assertEqual(max(poly.degree for poly in step_polys(book, field, steps)), 5)

    def test_rows_that_stand_twice(self):
        rows = ((2, (), 0),) + PAPER[1][1:] + ((-1, (), 0),)
        for field in (0, 3, 5, 7):
            self.check(BOOK, field, (1, rows))
        for field in FIELDS:
            self.check(BOOK, field, (1, PAPER[1] + ((1, (2,), 1), (1, (2,), 1), (-1, (2,), 1), (-1, (2,), 1))))

    def test_numbers_that_the_field_writes_in_another_way(self):
        for field in FIELDS:
            self.check(BOOK, field, (211, tuple((211, *row[1:]) for row in PAPER[1])))
            self.check(BOOK, field, (-1, tuple((-1, *row[1:]) for row in PAPER[1])))

    def test_many_rows(self):
        book = chain_book(5)
        total, rows = sum_paper(book, 0, 5)
        self.check(book, 0, (60 * total, 60 * rows))
        self.check(book, 7, (60 * total, 60 * rows))
        # The last step may have more than 500 pairs.
        more = ((1, (3, 4), 1), (-1, (3, 4), 1)) * 300
        for field in FIELDS:
            self.check(book, field, (total, rows + more))

    def test_sums_of_many_books(self):
        source = random.Random(521)
        books = sample_books(522, 60) + [chain_book(4), full_book(4), full_book(5)]
        books += [random_book(source, 5, many, 1, 3) for many in (20, 30, 40)]
        count = 0
        for book in books:
            for field in FIELDS:
                for bound in (1, 2, 3, 5):
                    paper = sum_paper(book, field, bound)
                    if paper is not None:
                        self.check(book, field, paper)
                        self.assertLessEqual(least_steps(book, field), degree_of(book, paper))
                        count += 1
        self.assertGreater(count, 100)

    def test_wrong_sums(self):
        for paper, place, kind in (((1, PAPER[1][:2]), 2, "sum"), ((0, PAPER[1]), 3, "total"), ((1, ()), 0, "sum"),
                                   ((1, ((0, (), 0),)), 0, "number"), ((1, ((1, (3,), 0),)), 0, "product"),
                                   ((1, ((1, (), 3),)), 0, "wish"), ((1, ((1, (1,), 1),)), 0, "meets")):
            for field in FIELDS:
                self.assertEqual(told(sum_steps, BOOK, field, paper), raised("BadPaper", place, kind))
        self.assertEqual(told(sum_steps, BOOK, 2, (2, PAPER[1])), raised("BadPaper", 3, "total"))
        self.assertEqual(told(sum_steps, BOOK, 0, (2, PAPER[1])), raised("BadPaper", 3, "sum"))


class Lines(unittest.TestCase):

    def check(self, book, field, rows):
        steps = line_steps(book, field, rows)
        self.assertTrue(plain(steps))
        most = width_of(rows) + 1
        self.assertIsNone(steps_fault(book, field, steps, most=most))
        self.assertLessEqual(len(steps), 30 * len(rows) + 1)
        for step in steps:
            self.assertLessEqual(len(step[1]) if step[0] == "sum" else 0, 500)
            self.assertTrue(field == 0 or step[0] != "sum" or all(1 <= number < field for number, _ in step[1]))
        return steps

    def test_ordinary_rows(self):
        for field in FIELDS:
            steps = self.check(BOOK, field, ROWS)
            self.assertIsNone(steprows.steps_fault(BOOK, field, steps, 2))
            self.assertEqual(step_polys(BOOK, field, steps)[-1].terms, (((), 1),))

    def test_the_polynomials_of_the_lines_are_reached(self):
        book = chain_book(4)
        for field in FIELDS:
            rows = chain_rows(book)
            found = steprows.polys_of(book, field, self.check(book, field, rows))
            for line, name, _, _ in rows:
                for words in (line, line + ((name, 1),), line + ((name, 0),)):
                    self.assertIn(algebra.clean(field, algebra.wish_terms(field, words)), found)

    def test_no_rows(self):
        for field in FIELDS:
            for book in (Book(0, [()]), Book(5, [(), ((1, 0),), ((1, 1), (2, 1))])):
                self.assertEqual(self.check(book, field, ()), (("wish", 0),))

    def test_sources_that_lack_words(self):
        # The wish without words is the source on both sides, and all words are to be added.
        book = Book(5, [()])
        for line in ((), ((2, 0), (3, 1)), ((2, 1), (3, 1), (4, 1), (5, 1)), ((2, 0), (3, 0), (4, 0), (5, 0))):
            rows = ((line, 1, ("wish", 0), ("wish", 0)), ((), 2, ("wish", 0), ("wish", 0)))
            for field in FIELDS:
                self.check(book, field, rows)
        # A row whose sources are the same row, and lack its name.
        rows = ROWS + (((), 2, ("line", 1), ("line", 1)), (((2, 1),), 1, ("line", 2), ("line", 1)),
                       ((), 1, ("line", 1), ("line", 2)))
        for field in FIELDS:
            self.check(BOOK, field, rows)

    def test_rows_of_many_books(self):
        source = random.Random(523)
        books = sample_books(524, 50) + [chain_book(4), full_book(4), chain_book(5), full_book(5)]
        for at, (book, rows) in enumerate(right_rows(source, books, 3)):
            steps = self.check(book, FIELDS[at % 5], rows)
            self.assertIsNone(steprows.steps_fault(book, FIELDS[at % 5], steps, width_of(rows) + 1))
            self.check(book, 0, rows)

    def test_papers_of_least_width(self):
        source = random.Random(525)
        for book in [chain_book(5), full_book(5), *(random_book(source, 5, many, 1, 3) for many in (20, 30, 50))]:
            for bound in range(5):
                rows = kept_lines(book, bound)
                if rows is not None:
                    for field in FIELDS:
                        self.check(book, field, rows)
                        self.assertLessEqual(least_steps(book, field), width_of(rows) + 1)

    def test_long_papers(self):
        book = chain_book(5)
        rows = chain_rows(book)
        many = 150 * rows[:1] + tuple(
            (*row[:3], ("line", row[3][1] + 150) if row[3][0] == "line" else row[3]) for row in rows)
        for field in (0, 2):
            self.check(book, field, many)

    def test_wrong_rows(self):
        for rows, place, kind in (((), 0, "end"), (ROWS[:1], 1, "end"), (ROWS[1:], 0, "source"),
                                  (((((3, 0),), 1, *ROWS[0][2:]),), 0, "line"), ((((), 3, *ROWS[0][2:]),), 0, "name"),
                                  (((((1, 0),), 1, *ROWS[0][2:]),), 0, "asked"),
                                  ((((), 1, ("wish", 0), ("wish", 0)),), 0, "left"),
                                  ((((), 1, ("wish", 1), ("wish", 2)),), 0, "right")):
            for field in FIELDS:
                self.assertEqual(told(line_steps, BOOK, field, rows), raised("BadPaper", place, kind))


class Errors(unittest.TestCase):

    def test_the_order_of_errors(self):
        for call, bad in ((sum_steps, (0, ())), (line_steps, ((((9, 9),), 9, ("x", 1), ("y", 2)),))):
            for names in (6, 40):
                for field in (0, 7, 4):
                    self.assertEqual(told(call, Book(names, [()]), field, bad), raised("TooLarge", names, 5))
            for field in NO_FIELDS:
                self.assertEqual(told(call, BOOK, field, bad), raised("BadField", field))

    def test_random_trees_give_sums_that_give_steps(self):
        source = random.Random(526)
        for book in sample_books(527, 40) + [full_book(5)]:
            tree = random_tree(source, book)
            if tree is not None:
                for field in FIELDS:
                    Sums.check(self, book, field, tree_sum(book, field, tree))


if __name__ == "__main__":
    unittest.main()
