"""Points 81, 82, 85, 86 and 88 and the interface of sums."""

import random
import unittest

from papersorliars.books import Book
from papersorliars.designs import design
from papersorliars.sums import least_sum, sum_degree, sum_either, sum_fault, sum_paper, tree_sum
from tests import algebra
from tests.algebra import FIELDS, GREAT, NO_FIELDS
from tests.helpers import (
    all_stands, chain_book, full_book, kept, leaf_ways, plain, raised, random_book, random_tree, sample_books, told,
)
from tests.least import deeper, number_of, small_books

# The wishes are ((1, 0), (2, 1)), ((1, 1),) and ((2, 0),): the polynomials x - xy, 1 - x and y.
BOOK = Book(2, [((1, 0), (2, 1)), ((1, 1),), ((2, 0),)])
PAPER = (1, ((1, (), 0), (1, (), 1), (1, (1,), 2)))


def bounds_of(book):
    return [*range(book.names + 2), GREAT]


def spoiled_sum(source, book, paper):
    """The sum with some places changed."""
    total, rows = paper
    rows = list(rows)
    for _ in range(source.randint(1, 2)):
        deed = source.randint(0, 6)
        at = source.randint(0, max(len(rows) - 1, 0))
        index = source.randint(-1, len(book.wishes))
        row = tuple(source.randint(0, book.names + 1) for _ in range(source.randint(0, 2)))
        if deed == 0:
            total = total + source.choice((-1, 1, 210, -total))
        elif deed == 1 or not rows:
            rows.insert(at, (source.randint(-3, 3), row, index))
        elif deed == 2:
            rows.append(rows.pop(at))
        elif deed == 3:
            rows[at] = (rows[at][0] * source.choice((1, 2, 3, 0, 211)), *rows[at][1:])
        elif deed == 4:
            rows[at] = (rows[at][0], tuple(sorted(set(row))), rows[at][2])
        elif deed == 5:
            rows[at] = (*rows[at][:2], index)
        else:
            rows[at:at + 1] = [(1, *rows[at][1:]), (rows[at][0] - 1, *rows[at][1:])]
    return (total, tuple(rows))


class Fault(unittest.TestCase):

    def test_a_right_sum(self):
        for field in FIELDS:
            self.assertIsNone(sum_fault(BOOK, field, PAPER))
            self.assertIsNone(sum_fault(BOOK, field, PAPER, most=None))
            self.assertIsNone(sum_fault(BOOK, field, PAPER, most=2))
            self.assertIsNone(sum_fault(BOOK, field, PAPER, most=GREAT))
            self.assertIsNone(sum_fault(BOOK, field, (1, PAPER[1][::-1])))
            self.assertIsNone(sum_fault(BOOK, field, (211, tuple((211, *row[1:]) for row in PAPER[1]))))
            self.assertIsNone(sum_fault(Book(0, [()]), field, (-1, ((-1, (), 0),)), most=0))

    def test_numbers(self):
        for field in FIELDS:
            for number in (0, field, -field, 210 * field, field * 10 ** 40):
                row = (number, (9, 9), 99)
                self.assertEqual(sum_fault(BOOK, field, (1, (row,))), (0, "number"))
                self.assertEqual(sum_fault(BOOK, field, (0, PAPER[1] + (row,))), (3, "number"))
        self.assertEqual(sum_fault(BOOK, 2, (1, ((2, (), 0),))), (0, "number"))
        self.assertEqual(sum_fault(BOOK, 3, (1, ((2, (), 0),))), (1, "sum"))

    def test_products(self):
        for row in ((0,), (-1,), (3,), (1, 1), (2, 1), (1, 2, 3), (10 ** 40,), (0, 1), (1, 2, 2)):
            for index in (0, 1, 99, -1):
                self.assertEqual(sum_fault(BOOK, 0, (1, ((1, row, index),))), (0, "product"))
                self.assertEqual(sum_fault(BOOK, 7, (1, PAPER[1][:2] + ((1, row, index),))), (2, "product"))
        self.assertEqual(sum_fault(Book(0, [()]), 0, (1, ((1, (1,), 0),))), (0, "product"))

    def test_wishes(self):
        for index in (-1, 3, 10 ** 40, -3):
            for row in ((), (1,), (1, 2)):
                self.assertEqual(sum_fault(BOOK, 5, (1, ((1, row, index),))), (0, "wish"))
        self.assertEqual(sum_fault(Book(2, []), 0, (1, ((1, (), 0),))), (0, "wish"))

    def test_products_that_meet_the_wish(self):
        for row, index in (((1,), 0), ((2,), 0), ((1, 2), 0), ((1,), 1), ((1, 2), 1), ((2,), 2), ((1, 2), 2)):
            self.assertEqual(sum_fault(BOOK, 3, (1, ((1, row, index),)), most=0), (0, "meets"))
        for row, index in (((), 0), ((2,), 1), ((1,), 2)):
            self.assertEqual(sum_fault(BOOK, 3, (1, ((1, row, index),))), (1, "sum"))

    def test_degrees(self):
        self.assertEqual(sum_fault(BOOK, 0, PAPER, most=1), (0, "degree"))
        self.assertEqual(sum_fault(BOOK, 0, PAPER, most=0), (0, "degree"))
        self.assertEqual(sum_fault(BOOK, 0, (1, PAPER[1][1:]), most=1), (1, "degree"))
        self.assertEqual(sum_fault(BOOK, 0, (1, PAPER[1][1:]), most=2), (2, "sum"))
        self.assertEqual(sum_fault(BOOK, 0, (1, ((1, (), 1),)), most=0), (0, "degree"))
        self.assertEqual(sum_fault(Book(3, BOOK.wishes), 0, (1, ((1, (2, 3), 1),)), most=2), (0, "degree"))
        self.assertEqual(sum_fault(Book(3, BOOK.wishes), 0, (1, ((1, (2, 3), 1),)), most=3), (1, "sum"))

    def test_totals(self):
        for field in FIELDS:
            for total in (0, field, -field, 210 * field):
                self.assertEqual(sum_fault(BOOK, field, (total, ())), (0, "total"))
                self.assertEqual(sum_fault(BOOK, field, (total, PAPER[1])), (3, "total"))
        self.assertEqual(sum_fault(BOOK, 7, (14, PAPER[1])), (3, "total"))

    def test_rows_that_do_not_add_up(self):
        for field in FIELDS:
            self.assertEqual(sum_fault(BOOK, field, (1, ())), (0, "sum"))
            self.assertEqual(sum_fault(BOOK, field, (1, PAPER[1][:2])), (2, "sum"))
            self.assertEqual(sum_fault(BOOK, field, (1, PAPER[1] + (PAPER[1][0],))), (4, "sum"))
        self.assertEqual(sum_fault(BOOK, 0, (2, PAPER[1])), (3, "sum"))
        self.assertEqual(sum_fault(BOOK, 3, (2, PAPER[1])), (3, "sum"))
        self.assertIsNone(sum_fault(BOOK, 3, (4, PAPER[1])))
        self.assertEqual(sum_fault(BOOK, 0, (4, PAPER[1])), (3, "sum"))
        self.assertEqual(sum_fault(Book(0, []), 2, (1, ())), (0, "sum"))

    def test_rows_that_stand_twice(self):
        # The rows (2, (), 0) and (-1, (), 0) are together the row (1, (), 0).
        rows = ((2, (), 0),) + PAPER[1][1:] + ((-1, (), 0),)
        for field in (0, 3, 5, 7):
            self.assertIsNone(sum_fault(BOOK, field, (1, rows), most=2))
        self.assertEqual(sum_fault(BOOK, 2, (1, rows)), (0, "number"))
        self.assertIsNone(sum_fault(BOOK, 2, (1, PAPER[1] + PAPER[1][:1] * 2)))
        self.assertEqual(sum_fault(BOOK, 0, (1, PAPER[1] + PAPER[1][:1] * 2)), (5, "sum"))

    def test_the_first_of_several_faults(self):
        wrong = (0, (9,), 9)
        self.assertEqual(sum_fault(BOOK, 0, (0, (wrong, wrong))), (0, "number"))
        self.assertEqual(sum_fault(BOOK, 0, (0, ((1, (9,), 9), wrong))), (0, "product"))
        self.assertEqual(sum_fault(BOOK, 0, (0, ((1, (1,), 9), wrong))), (0, "wish"))
        self.assertEqual(sum_fault(BOOK, 0, (0, ((1, (1,), 1), wrong)), most=1), (0, "meets"))
        self.assertEqual(sum_fault(BOOK, 0, (0, ((1, (2,), 1), wrong)), most=1), (0, "degree"))
        self.assertEqual(sum_fault(BOOK, 0, (0, ((1, (2,), 1), wrong)), most=2), (1, "number"))

    def test_sums_with_places_changed(self):
        source = random.Random(311)
        kinds = set()
        for book in sample_books(312, 70) + [chain_book(4), chain_book(5)]:
            field = source.choice(FIELDS)
            paper = sum_paper(book, field, book.names) or (1, ())
            for _ in range(12):
                changed = spoiled_sum(source, book, paper)
                most = source.choice((None, None, 0, 1, 2, 3))
                found = sum_fault(book, field, changed, most=most)
                self.assertEqual(found, algebra.sum_fault(book, field, changed, most))
                kinds.add(found and found[1])
        self.assertEqual(kinds, {None, "number", "product", "wish", "meets", "degree", "total", "sum"})

    def test_many_rows(self):
        book = chain_book(5)
        total, rows = sum_paper(book, 0, 5)
        self.assertIsNone(sum_fault(book, 0, (500 * total, 500 * rows)))
        self.assertEqual(sum_fault(book, 0, (500 * total + 1, 500 * rows)), (500 * len(rows), "sum"))


class Errors(unittest.TestCase):

    def test_too_many_names_go_ahead_of_fields(self):
        tree, paper = ("leaf", 9), (0, ((0, (9,), 9),))
        for names in (6, 7, 40):
            for book in (Book(names, []), Book(names, [()])):
                for field in (0, 2, 1, -7, 10 ** 40):
                    calls = [(sum_fault, field, paper), (sum_paper, field, 0), (least_sum, field),
                             (sum_either, field, GREAT), (tree_sum, field, tree)]
                    for call, *rest in calls:
                        self.assertEqual(told(call, book, *rest), raised("TooLarge", names, 5))
                self.assertEqual(told(sum_degree, book, (1, ())), raised("TooLarge", names, 5))

    def test_fields(self):
        for field in NO_FIELDS:
            for call, *rest in [(sum_fault, (0, ((0, (9,), 9),))), (sum_paper, 0), (least_sum,), (sum_either, 2),
                                (tree_sum, ("leaf", 9))]:
                self.assertEqual(told(call, BOOK, field, *rest), raised("BadField", field))


class Sums(unittest.TestCase):

    def check_paper(self, book, field, bound, paper):
        self.assertTrue(plain(paper))
        self.assertIsNone(algebra.sum_fault(book, field, paper, bound))
        self.assertIsNone(sum_fault(book, field, paper, most=bound))
        total, rows = paper
        self.assertEqual(len({row[1:] for row in rows}), len(rows))
        if field:
            self.assertTrue(all(1 <= number < field for number in (total, *[row[0] for row in rows])))
        highest = max([len(row) + len(book.wishes[index]) for _, row, index in rows] + [0])
        self.assertEqual(sum_degree(book, paper), highest)
        self.assertIsNone(sum_fault(book, field, paper, most=highest))
        if rows and highest > 0:
            self.assertEqual(sum_fault(book, field, paper, most=highest - 1)[1], "degree")

    def check(self, book, field, bound):
        """Whether there is a sum; that there is no design besides follows, since both are checked."""
        paper, rows = sum_paper(book, field, bound), design(book, field, bound)
        if paper is None:
            self.assertEqual(sum_either(book, field, bound), ("liar", rows))
            self.assertTrue(plain(rows))
            self.assertIsNone(algebra.design_fault(book, field, bound, rows))
            return False
        self.assertIsNone(rows)
        self.assertEqual(sum_either(book, field, bound), ("paper", paper))
        self.check_paper(book, field, bound, paper)
        return True

    def check_book(self, book, field):
        found = [bound for bound in bounds_of(book) if self.check(book, field, bound)]
        measure = least_sum(book, field)
        self.assertEqual(measure is None, kept(book))
        self.assertEqual(found, [] if measure is None else [b for b in bounds_of(book) if b >= measure])
        return measure

    def test_ordinary_books(self):
        for field in FIELDS:
            self.assertEqual(self.check_book(BOOK, field), 2)
            self.assertEqual(self.check_book(Book(1, [((1, 0),), ((1, 1),)]), field), 1)
            self.assertEqual(self.check_book(full_book(3), field), 3)
            self.assertEqual(self.check_book(Book(3, [(), ((1, 0),)]), field), 0)
            self.assertIsNone(self.check_book(Book(2, [((1, 0),), ((2, 0),)]), field))

    def test_books_without_names(self):
        for field in FIELDS:
            self.assertEqual(self.check_book(Book(0, [()]), field), 0)
            self.assertIsNone(self.check_book(Book(0, []), field))

    def test_all_small_books(self):
        for at, book in enumerate(small_books()):
            self.check_book(book, FIELDS[at % 5])

    def test_books_by_chance(self):
        source = random.Random(313)
        measures = set()
        for book in sample_books(314, 40) + [chain_book(4), full_book(4)]:
            for field in FIELDS:
                measures.add(self.check_book(book, field))
        for _ in range(12):
            book = random_book(source, 4, source.randint(8, 30), 1, 3)
            measures.add(self.check_book(book, source.choice(FIELDS)))
        self.assertEqual(measures, {None, 0, 1, 2, 3, 4})

    def test_measures_by_another_way(self):
        source = random.Random(315)
        for book in sample_books(316, 30) + [random_book(source, 3, 10, 1, 3) for _ in range(10)]:
            for field in FIELDS:
                for bound in range(book.names + 1):
                    self.assertEqual(sum_paper(book, field, bound) is not None, algebra.has_sum(book, field, bound))

    def test_five_names(self):
        source = random.Random(317)
        books = [full_book(5), chain_book(5), Book(5, all_stands(5)[1:129]), Book(5, all_stands(5)[115:])]
        books += [random_book(source, 5, many, 1, 4) for many in (20, 60, 200)]
        for at, book in enumerate(books):
            self.check_book(book, 0)
            self.check_book(book, FIELDS[1 + at % 4])

    def test_the_field_counts(self):
        # Of three answers an odd number of pairs are equal, so over 2 all six wishes add up to 1.
        wishes = [((1, 0), (2, 0)), ((1, 1), (2, 1)), ((2, 0), (3, 0)), ((2, 1), (3, 1)), ((1, 0), (3, 0)),
                  ((1, 1), (3, 1))]
        found = {field: self.check_book(Book(3, wishes), field) for field in FIELDS}
        self.assertEqual(found, {0: 3, 2: 2, 3: 3, 5: 3, 7: 3})

    def test_equal_books_and_books_after_others(self):
        again = Book(2, [[(2, 0)], [(2, 1), (1, 0)], [(1, 1)], [(1, 1)]])
        for field in FIELDS:
            for bound in (0, 1, 2, GREAT):
                first = sum_either(BOOK, field, bound)
                for other in FIELDS:
                    sum_either(full_book(3), other, bound)
                self.assertEqual(sum_either(BOOK, field, bound), first)
                self.assertEqual(sum_either(again, field, bound), first)


class Degree(unittest.TestCase):

    def test_degrees(self):
        self.assertEqual(sum_degree(BOOK, PAPER), 2)
        self.assertEqual(sum_degree(BOOK, (1, ())), 0)
        self.assertEqual(sum_degree(Book(0, [()]), (1, ((1, (), 0),))), 0)
        self.assertEqual(sum_degree(BOOK, (1, ((1, (), 1),))), 1)
        self.assertEqual(sum_degree(Book(4, BOOK.wishes), (1, ((1, (), 1), (1, (2, 3, 4), 1), (1, (3,), 0)))), 4)


class Trees(unittest.TestCase):

    def check(self, book, field, tree):
        paper = tree_sum(book, field, tree)
        self.assertTrue(plain(paper))
        self.assertEqual(paper[0], 1)
        self.assertIsNone(algebra.sum_fault(book, field, paper, number_of(tree, 0, deeper)))
        self.assertEqual(len({row[1:] for row in paper[1]}), len(paper[1]))
        if field:
            self.assertTrue(all(1 <= row[0] < field for row in paper[1]))
        return paper

    def test_ordinary_trees(self):
        for field in FIELDS:
            self.assertEqual(self.check(Book(0, [()]), field, ("leaf", 0)), (1, ((1, (), 0),)))
            self.assertEqual(self.check(Book(5, [(), ((1, 0),)]), field, ("leaf", 0)), (1, ((1, (), 0),)))
            self.check(BOOK, field, ("ask", 1, ("leaf", 1), ("ask", 2, ("leaf", 0), ("leaf", 2))))
            self.check(BOOK, field, ("ask", 2, ("ask", 1, ("leaf", 1), ("leaf", 0)), ("leaf", 2)))

    def test_names_that_are_not_needed(self):
        # Both ways end at the same wish, so its rows add up to one row, also over 2.
        book = Book(2, [((1, 0),), ((1, 1),)])
        inner = ("ask", 1, ("leaf", 1), ("leaf", 0))
        for field in FIELDS:
            self.check(book, field, ("ask", 2, inner, inner))

    def test_trees_by_chance(self):
        source = random.Random(318)
        count = 0
        books = sample_books(319, 70) + [chain_book(5), full_book(4), full_book(5)]
        books += [random_book(source, 5, 40, 1, 4) for _ in range(10)]
        for book in books:
            for _ in range(3):
                tree = random_tree(source, book)
                if tree is not None:
                    self.check(book, source.choice(FIELDS), tree)
                    count += len(leaf_ways(tree)) > 3
        self.assertGreater(count, 40)

    def test_trees_with_a_fault(self):
        for field in FIELDS:
            for tree, place, kind in ((("leaf", 0), (), "unbroken"), (("leaf", 3), (), "wish"),
                                      (("ask", 3, ("leaf", 0), ("leaf", 0)), (), "name"),
                                      (("ask", 1, ("leaf", 1), ("leaf", 1)), ((1, 1),), "unbroken")):
                self.assertEqual(told(tree_sum, BOOK, field, tree), raised("BadPaper", place, kind))


if __name__ == "__main__":
    unittest.main()
