"""Points 16, 18 and 43 to 47 and the interface of points."""

import random
import unittest

from papersorliars.books import Book
from papersorliars.depth import depth_liar_fault
from papersorliars.linetrees import tree_lines
from papersorliars.points import (
    branching, least_points, point_either, point_table, point_table_fault, point_tree, table_stands,
)
from papersorliars.trees import tree_fault
from tests.helpers import (
    NO_STANDS, add, all_stands, broken, chain_book, free, full_book, kept, plain, raised, random_book, random_tree,
    right_row, sample_books, told, wrong_tree,
)
from tests.least import bounds_around, branched, least_table, number_of, small_books

# Its wishes are ((1, 0), (2, 1)), ((1, 1),) and ((2, 0),).
BOOK = Book(2, [((1, 1),), ((1, 0), (2, 1)), ((2, 0),)])


def table_of(book, bound, table):
    """The table by the words of point 45."""
    rows = []
    for stand in all_stands(book.names):
        if not broken(book, stand):
            rows.append((stand, bound + 1 if table[stand] is None else min(table[stand], bound + 1)))
    return tuple(rows)


def fault(book, bound, rows):
    """The first fault by the words of points 44 and 46."""
    for at, (stand, number) in enumerate(rows):
        if not right_row(book.names, stand):
            return (stand, "stand")
        if at and not stand > rows[at - 1][0]:
            return (stand, "order")
        if number < 1:
            return (stand, "number")
        if broken(book, stand):
            return (stand, "broken")
    numbers = dict(rows)
    if numbers.get((), 0) < bound + 1:
        return ((), "empty")
    for stand, number in rows:
        for name in free(book, stand):
            sides = [numbers.get(add(stand, name, v), 0) for v in (0, 1)]
            if max(sides) < number and min(sides) <= number - 2:
                return (stand, "stuck")
    return None


def spoiled(source, book, rows):
    """The table with some entries changed, left out or added."""
    rows = list(rows)
    for _ in range(source.randint(1, 2)):
        deed = source.randint(0, 5)
        at = source.randint(0, len(rows))
        if deed == 0 or not rows:
            rows.insert(at, (source.choice(NO_STANDS), source.randint(0, 3)))
            continue
        at = at % len(rows)
        stand, number = rows[at]
        if deed == 1:
            rows.pop(at)
        elif deed == 2:
            rows[at] = (stand, number + source.choice((-2, -1, 1)))
        elif deed == 3:
            rows.insert(at, rows[at])
        elif deed == 4:
            rows = sorted([*rows, (source.choice(all_stands(book.names)), source.randint(0, 2))])
        else:
            rows = rows[1:]
    return tuple(rows)


class Branching(unittest.TestCase):

    def test_ordinary_trees(self):
        leaf = ("leaf", 0)
        one = ("ask", 1, leaf, leaf)
        two = ("ask", 2, one, one)
        self.assertEqual([branching(tree) for tree in (leaf, one, two)], [0, 1, 2])
        self.assertEqual(branching(("ask", 2, one, leaf)), 1)
        self.assertEqual(branching(("ask", 2, leaf, one)), 1)
        self.assertEqual(branching(("ask", 3, two, one)), 2)
        self.assertEqual(branching(("ask", 3, leaf, two)), 2)
        self.assertEqual(branching(("ask", 4, ("ask", 3, one, two), two)), 3)
        self.assertEqual(branching(("ask", 4, ("ask", 3, one, two), one)), 2)

    def test_ordinary_line_trees(self):
        leaf = ("wish", 0)
        one = ("from", 1, (), leaf, leaf)
        two = ("from", 2, ((1, 0), (3, 1)), one, one)
        self.assertEqual([branching(tree) for tree in (leaf, one, two)], [0, 1, 2])
        self.assertEqual(branching(("from", 3, (), leaf, two)), 2)
        self.assertEqual(branching(("from", 3, ((1, 0),), two, one)), 2)
        self.assertEqual(branching(("from", 3, (), two, two)), 3)

    def test_nothing_is_checked(self):
        leaf = ("leaf", -4)
        self.assertEqual(branching(("ask", -1, ("ask", -1, leaf, leaf), ("ask", 10 ** 40, leaf, leaf))), 2)
        leaf = ("wish", -4)
        self.assertEqual(branching(("from", -1, ((0, 9),), leaf, leaf)), 1)

    def test_trees_by_chance(self):
        source = random.Random(81)
        for _ in range(200):
            tree = wrong_tree(source, 5, 4, 9)
            self.assertEqual(branching(tree), number_of(tree, 0, branched))

    def test_trees_and_their_line_trees(self):
        source = random.Random(82)
        for book in sample_books(83, 30):
            tree = random_tree(source, book)
            if tree is not None:
                paper = tree_lines(book, tree)
                self.assertEqual(branching(paper), number_of(paper, 0, branched))
                self.assertLessEqual(branching(paper), branching(tree))

    def test_great_trees(self):
        tree, paper = ("leaf", 0), ("wish", 0)
        for name in range(1, 100):
            tree = ("ask", name, ("leaf", 0), tree) if name % 2 else ("ask", name, tree, ("leaf", 0))
            paper = ("from", name, (), ("wish", 0), paper) if name % 3 else ("from", name, (), paper, ("wish", 0))
        self.assertEqual((branching(tree), branching(paper)), (1, 1))
        tree = ("leaf", 0)
        for name in range(11):
            tree = ("ask", name, tree, tree)
        self.assertEqual(branching(tree), 11)


class Either(unittest.TestCase):

    def check(self, book, bound, table):
        least = table[()]
        found = point_table(book, bound)
        tree = point_tree(book, bound)
        if least is not None and least <= bound:
            self.assertIsNone(found)
            self.assertIsNone(tree_fault(book, tree))
            self.assertLessEqual(branching(tree), bound)
            self.assertTrue(plain(tree))
            kind, paper = point_either(book, bound)
            self.assertEqual((kind, tree_fault(book, paper)), ("paper", None))
            self.assertLessEqual(branching(paper), bound)
        else:
            self.assertIsNone(tree)
            self.assertEqual(found, table_of(book, bound, table))
            self.assertIsNone(point_table_fault(book, bound, found))
            self.assertEqual(point_either(book, bound), ("liar", found))
            self.assertTrue(plain(found))

    def test_ordinary_books(self):
        self.assertEqual(least_points(BOOK), 1)
        self.assertEqual(point_table(BOOK, 0), (((), 1), (((1, 1),), 1), (((2, 0),), 1)))
        self.assertIsNone(point_table(BOOK, 1))
        full = full_book(2)
        self.assertEqual(least_points(full), 2)
        sides = tuple((((x, v),), 1) for x in (1, 2) for v in (0, 1))
        self.assertEqual(point_table(full, 1), (((), 2), *sides))
        self.assertEqual(point_table(full, 0), (((), 1), *sides))
        self.assertIsNone(point_table(full, 2))

    def test_the_example_of_the_units(self):
        book = Book(2, [((1, 0),), ((1, 1), (2, 0)), ((1, 1), (2, 1))])
        self.assertEqual(least_points(book), 1)

    def test_a_kept_book(self):
        book = Book(1, [((1, 0),)])
        self.assertIsNone(least_points(book))
        for bound in (0, 3, 10 ** 40):
            self.assertEqual(point_table(book, bound), (((), bound + 1), (((1, 0),), bound + 1)))

    def test_books_without_names(self):
        kept_book, empty = Book(0, []), Book(0, [()])
        self.assertEqual((least_points(kept_book), least_points(empty)), (None, 0))
        for bound in (0, 1, 5, 10 ** 40):
            self.assertEqual(point_either(kept_book, bound), ("liar", (((), bound + 1),)))
            self.assertEqual((point_tree(kept_book, bound), point_table(kept_book, bound)), (None, (((), bound + 1),)))
            self.assertEqual(point_either(empty, bound), ("paper", ("leaf", 0)))
            self.assertEqual((point_tree(empty, bound), point_table(empty, bound)), (("leaf", 0), None))

    def test_the_measure_0(self):
        for book in sample_books(84, 40):
            self.assertEqual(least_points(book) == 0, () in book.wishes)

    def test_all_small_books(self):
        for book in small_books():
            table = least_table(book, 0, branched)
            self.assertEqual(least_points(book), table[()])
            self.assertEqual(table[()] is None, kept(book))
            for bound in bounds_around(table[()]):
                self.check(book, bound, table)

    def test_books_of_three_and_four_names(self):
        source = random.Random(85)
        books = sample_books(86, 30) + [random_book(source, 4, source.randint(5, 16)) for _ in range(12)]
        for book in books + [chain_book(4), full_book(4)]:
            table = least_table(book, 0, branched)
            self.assertEqual(least_points(book), table[()])
            for bound in bounds_around(table[()]):
                self.check(book, bound, table)

    def test_books_of_six_names(self):
        source = random.Random(87)
        great = [chain_book(6), full_book(6), Book(6, []), Book(6, full_book(6).wishes[:-1]),
                 random_book(source, 6, 128, 3), random_book(source, 6, 60, 2, 4), random_book(source, 5, 80, 2)]
        measures = [least_points(book) for book in great]
        self.assertEqual(measures[:4], [1, 6, None, None])
        for book, measure in zip(great, measures):
            table = least_table(book, 0, branched)
            self.assertEqual(measure, table[()])
            for bound in bounds_around(measure)[-5:]:
                self.check(book, bound, table)

    def test_known_measures(self):
        for size in range(1, 7):
            self.assertEqual(least_points(chain_book(size)), 1)
            self.assertEqual(least_points(full_book(size)), size)

    def test_the_same_again_and_after_another_book(self):
        other = Book(2, [((1, 1),), ((1, 0), (2, 0)), ((2, 1),)])
        again = Book(2, [[(2, 0)], [(2, 1), (1, 0)], [(1, 1)], [(2, 0)]])
        for bound in (0, 1, 2):
            first = [point_either(BOOK, bound), point_table(BOOK, bound), point_tree(BOOK, bound), least_points(BOOK)]
            point_either(other, bound)
            least_points(full_book(3))
            for book in (BOOK, again):
                found = [asked(book, bound) for asked in (point_either, point_table, point_tree)]
                self.assertEqual([*found, least_points(book)], first)

    def test_too_many_names(self):
        for names in (7, 40):
            for book in (Book(names, []), Book(names, [()]), Book(names, [((7, 0),), ((7, 1),)])):
                self.assertEqual(told(least_points, book), raised("TooLarge", names, 6))
                for bound in (0, 1, 10 ** 40):
                    for asked in (point_tree, point_table, point_either):
                        self.assertEqual(told(asked, book, bound), raised("TooLarge", names, 6))


class Fault(unittest.TestCase):

    def test_each_kind(self):
        right = (((), 1), (((1, 1),), 1), (((2, 0),), 1))
        self.assertIsNone(point_table_fault(BOOK, 0, right))
        for stand in NO_STANDS:
            self.assertEqual(point_table_fault(BOOK, 0, ((stand, 1), *right)), (stand, "stand"))
            self.assertEqual(point_table_fault(BOOK, 0, (*right, (stand, 1))), (stand, "stand"))
        self.assertEqual(point_table_fault(BOOK, 0, (right[0], right[2], right[1])), (((1, 1),), "order"))
        self.assertEqual(point_table_fault(BOOK, 0, (*right, right[2])), (((2, 0),), "order"))
        self.assertEqual(point_table_fault(BOOK, 0, (*right, (((2, 0),), 2))), (((2, 0),), "order"))
        for number in (0, -1, -10 ** 40):
            self.assertEqual(point_table_fault(BOOK, 0, (*right[:2], (((2, 0),), number))), (((2, 0),), "number"))
            self.assertEqual(point_table_fault(BOOK, 0, (((), number), *right[1:])), ((), "number"))
        self.assertEqual(point_table_fault(BOOK, 0, (((), 1), (((1, 0),), 1), *right[1:])), (((1, 0),), "broken"))
        self.assertEqual(point_table_fault(Book(1, [()]), 0, (((), 1),)), ((), "broken"))
        self.assertEqual(point_table_fault(BOOK, 1, right), ((), "empty"))
        self.assertEqual(point_table_fault(BOOK, 10 ** 40, right), ((), "empty"))
        self.assertEqual(point_table_fault(BOOK, 0, right[1:]), ((), "empty"))
        self.assertEqual(point_table_fault(BOOK, 0, ()), ((), "empty"))
        self.assertEqual(point_table_fault(BOOK, 1, (((), 2), *right[1:])), ((), "stuck"))

    def test_stuck(self):
        book = Book(1, [])
        for first, second, bad in ((0, 0, True), (0, 1, True), (1, 0, True), (1, 1, True), (2, 1, True), (1, 2, True),
                                   (2, 2, False), (3, 0, False), (0, 3, False), (4, 1, False), (2, 3, False)):
            rows = [((), 3)] + [(((1, v),), number) for v, number in ((0, first), (1, second)) if number]
            self.assertEqual(point_table_fault(book, 2, tuple(rows)), ((), "stuck") if bad else None)
            self.assertEqual(point_table_fault(book, 0, tuple(rows)), ((), "stuck") if bad else None)
        # The number 1 is never stuck: both numbers less than 1 are 0, and none is less by two.
        self.assertIsNone(point_table_fault(Book(3, []), 0, (((), 1),)))
        self.assertEqual(point_table_fault(Book(3, []), 1, (((), 2),)), ((), "stuck"))

    def test_the_first_of_several_faults(self):
        bad = ((1, 2),)
        self.assertEqual(point_table_fault(BOOK, 0, ((((2, 0),), 1), (((1, 0),), 0))), (((1, 0),), "order"))
        self.assertEqual(point_table_fault(BOOK, 0, (((), 1), (((1, 0),), 0))), (((1, 0),), "number"))
        self.assertEqual(point_table_fault(BOOK, 0, (((), 0), (bad, 1))), ((), "number"))
        self.assertEqual(point_table_fault(BOOK, 0, ((bad, 0), ((), 0))), (bad, "stand"))
        self.assertEqual(point_table_fault(BOOK, 9, (((), 3), (((1, 0),), 1))), (((1, 0),), "broken"))
        self.assertEqual(point_table_fault(BOOK, 9, (((), 3), (((1, 1),), 1))), ((), "empty"))
        self.assertEqual(point_table_fault(BOOK, 2, (((), 3), (((1, 1),), 3), (((2, 0),), 1))), ((), "stuck"))
        rows = (((), 3), (((1, 1),), 3), (((2, 0),), 3))
        self.assertEqual(point_table_fault(BOOK, 2, rows), (((1, 1),), "stuck"))

    def test_tables_with_places_changed(self):
        source = random.Random(88)
        kinds = set()
        for book in sample_books(89, 30) + [chain_book(4), full_book(4)]:
            least = least_table(book, 0, branched)[()]
            for bound in range(4 if least is None else least):
                right = point_table(book, bound)
                for _ in range(25):
                    rows = spoiled(source, book, right)
                    found = point_table_fault(book, bound, rows)
                    self.assertEqual(found, fault(book, bound, rows))
                    kinds.add(found and found[1])
        self.assertEqual(kinds, {None, "stand", "order", "number", "broken", "empty", "stuck"})

    def test_books_of_many_names(self):
        book = Book(40, [tuple((x, 1) for x in range(1, 41))])
        self.assertIsNone(point_table_fault(book, 0, (((), 1),)))
        rows = (((), 2),) + tuple((((x, v),), 1) for x in range(1, 41) for v in (0, 1))
        self.assertIsNone(point_table_fault(book, 1, rows))
        self.assertEqual(point_table_fault(book, 1, rows[:-1]), ((), "stuck"))
        self.assertEqual(point_table_fault(book, 1, rows + ((((41, 0),), 1),)), (((41, 0),), "stand"))
        self.assertEqual(table_stands(book, 1, rows), tuple(stand for stand, _ in rows))


class Stands(unittest.TestCase):

    def test_ordinary_tables(self):
        rows = point_table(full_book(2), 1)
        self.assertEqual(table_stands(full_book(2), 1, rows), ((), ((1, 0),), ((1, 1),), ((2, 0),), ((2, 1),)))
        rows = point_table(full_book(2), 0)
        self.assertEqual(table_stands(full_book(2), 0, rows), ((),))
        self.assertEqual(table_stands(Book(0, []), 3, (((), 4),)), ((),))
        self.assertEqual(table_stands(Book(1, []), 10 ** 40, point_table(Book(1, []), 10 ** 40)),
                         ((), ((1, 0),), ((1, 1),)))

    def test_an_object_of_the_manner_of_depth(self):
        for book in sample_books(90, 40) + [chain_book(5), full_book(4), chain_book(6), full_book(6)]:
            least = least_points(book)
            for bound in [0, 1, 2, 10 ** 40] if least is None else range(least):
                rows = point_table(book, bound)
                stands = table_stands(book, bound, rows)
                expected = [s for s, n in rows if len(s) <= bound and n + len(s) >= bound + 1]
                self.assertEqual(stands, tuple(expected))
                self.assertIsNone(depth_liar_fault(book, bound, stands))
                self.assertTrue(plain(stands))

    def test_tables_of_a_greater_number(self):
        book = Book(2, [])
        rows = (((), 5), (((1, 0),), 5), (((1, 0), (2, 1)), 9), (((2, 1),), 7))
        self.assertIsNone(point_table_fault(book, 1, rows))
        self.assertEqual(table_stands(book, 0, rows), ((),))
        self.assertEqual(table_stands(book, 1, rows), ((), ((1, 0),), ((2, 1),)))
        self.assertEqual(table_stands(book, 2, rows), ((), ((1, 0),), ((1, 0), (2, 1)), ((2, 1),)))

    def test_stands_whose_number_is_too_small(self):
        book = Book(2, [((1, 1), (2, 0)), ((1, 1), (2, 1))])
        rows = point_table(book, 2)
        self.assertIn((((1, 0),), 1), rows)
        expected = ((), ((1, 1),), ((1, 1), (2, 0)), ((1, 1), (2, 1)), ((2, 0),), ((2, 1),))
        self.assertEqual(table_stands(book, 2, rows), expected)

    def test_tables_with_a_fault(self):
        right = (((), 1), (((1, 1),), 1), (((2, 0),), 1))
        for bound, rows, place, kind in ((1, right, (), "empty"), (0, right[::-1], ((1, 1),), "order"),
                                         (0, (*right, (((2, 1),), 1)), ((2, 1),), "broken"),
                                         (0, (*right, (((2, 1),), 0)), ((2, 1),), "number"),
                                         (1, (((), 2), *right[1:]), (), "stuck"),
                                         (0, (*right, (((3, 0),), 1)), ((3, 0),), "stand")):
            self.assertEqual(told(table_stands, BOOK, bound, rows), raised("BadLiar", place, kind))


if __name__ == "__main__":
    unittest.main()
