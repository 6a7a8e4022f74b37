"""Points 128 to 130 and the interface of seven."""

import random
import unittest

from papersorliars import seven
from papersorliars.books import Book
from papersorliars.chances import chance_either, least_chance
from papersorliars.depth import depth_either, least_depth
from papersorliars.families import chain, full
from papersorliars.kept import keep_either, least_kept
from papersorliars.leaves import leaf_either, least_leaves
from papersorliars.points import least_points, point_either
from papersorliars.seven import MANNERS, account, either, least, liar_fault, measures, paper_fault
from papersorliars.steps import least_steps, steps_either
from papersorliars.sums import least_sum, sum_either
from tests.algebra import FIELDS, GREAT, NO_FIELDS
from tests.helpers import kept, plain, raised, random_book, random_tree, sample_books, told
from tests.least import branched, deeper, more, number_of

NO_MANNERS = ("", "deep", "Depth", "sums", "chances", "tree", "depth ", "a" * 21)
BY_FIELD = ("sum", "steps")
# The wishes are ((1, 0), (2, 1)), ((1, 1),) and ((2, 0),).
BOOK = Book(2, [((1, 0), (2, 1)), ((1, 1),), ((2, 0),)])
TREE = ("ask", 1, ("leaf", 1), ("ask", 2, ("leaf", 0), ("leaf", 2)))


def expected_least(book, manner, field):
    calls = {"depth": least_depth, "leaves": least_leaves, "points": least_points, "kept": least_kept,
             "sum": lambda b: least_sum(b, field), "steps": lambda b: least_steps(b, field), "chance": least_chance}
    return calls[manner](book)


def expected_either(book, manner, bound, field):
    calls = {"depth": depth_either, "leaves": leaf_either, "points": point_either, "kept": keep_either,
             "sum": lambda b, k: sum_either(b, field, k), "steps": lambda b, k: steps_either(b, field, k),
             "chance": chance_either}
    return calls[manner](book, bound)


def some_books(seed):
    source = random.Random(seed)
    return sample_books(seed + 1, 40) + [chain(4), full(4), random_book(source, 4, 9, 1, 2), Book(4, [()])]


class Names(unittest.TestCase):

    def test_the_row(self):
        self.assertEqual(MANNERS, ("depth", "leaves", "points", "kept", "sum", "steps", "chance"))
        self.assertIs(type(seven.MANNERS), tuple)

    def test_bad_manners_go_ahead_of_all_other_errors(self):
        for manner in NO_MANNERS:
            for book in (BOOK, Book(5, []), Book(40, [()])):
                for named in ({}, {"field": 0}, {"field": 4}, {"field": -1}):
                    self.assertEqual(told(least, book, manner, **named), raised("BadManner", manner))
                    self.assertEqual(told(either, book, manner, 1, **named), raised("BadManner", manner))
                    self.assertEqual(told(paper_fault, book, manner, 1, (), **named), raised("BadManner", manner))
                    self.assertEqual(told(liar_fault, book, manner, 1, (), **named), raised("BadManner", manner))


class Each(unittest.TestCase):

    def test_least_and_either(self):
        for at, book in enumerate(some_books(611)):
            field = FIELDS[at % 5]
            for manner in MANNERS:
                self.assertEqual(least(book, manner, field=field), expected_least(book, manner, field))
                self.assertEqual(least(book, manner), expected_least(book, manner, 0))
                for bound in (0, 1, 2, GREAT):
                    found = either(book, manner, bound, field=field)
                    self.assertEqual(found, expected_either(book, manner, bound, field))
                    self.assertEqual(either(book, manner, bound), expected_either(book, manner, bound, 0))
                    fault = paper_fault if found[0] == "paper" else liar_fault
                    self.assertIsNone(fault(book, manner, bound, found[1], field=field))

    def test_fields_that_are_none(self):
        for field in NO_FIELDS:
            for manner in MANNERS:
                calls = [(least,), (either, 1), (paper_fault, 1, either(BOOK, manner, 9)[1]),
                         (liar_fault, 0, either(BOOK, manner, 0)[1])]
                for call, *rest in calls:
                    found = told(call, BOOK, manner, *rest, field=field)
                    if manner in BY_FIELD:
                        self.assertEqual(found, raised("BadField", field))
                    else:
                        self.assertEqual(found, call(BOOK, manner, *rest))

    def test_too_many_names(self):
        limits = {"depth": 6, "leaves": 6, "points": 6, "kept": 6, "sum": 5, "steps": 5, "chance": 4}
        for manner, limit in limits.items():
            for names in (limit + 1, 40):
                for field in (0, 4):
                    book = Book(names, [()])
                    self.assertEqual(told(least, book, manner, field=field), raised("TooLarge", names, limit))
                    self.assertEqual(told(either, book, manner, 1, field=field), raised("TooLarge", names, limit))
            self.assertIsNotNone(least(Book(limit, [()]), manner))

    def test_the_field_counts(self):
        # Of three answers an odd number of pairs are equal, so over 2 all six wishes add up to 1.
        wishes = [((1, 0), (2, 0)), ((1, 1), (2, 1)), ((2, 0), (3, 0)), ((2, 1), (3, 1)), ((1, 0), (3, 0)),
                  ((1, 1), (3, 1))]
        book = Book(3, wishes)
        self.assertEqual([least(book, "sum", field=field) for field in FIELDS], [3, 2, 3, 3, 3])
        self.assertEqual(least(book, "sum"), 3)
        self.assertEqual([measures(book, field=field)[4] for field in FIELDS], [3, 2, 3, 3, 3])
        self.assertEqual(either(book, "sum", 2)[0], "liar")
        self.assertEqual(either(book, "sum", 2, field=2)[0], "paper")


class Measures(unittest.TestCase):

    def test_the_example(self):
        self.assertEqual(measures(chain(2)), (2, 3, 1, 1, 2, 2, 2))

    def test_many_books(self):
        for book in some_books(613):
            for field in (0, 2, 7):
                found = measures(book, field=field)
                self.assertIs(type(found), tuple)
                self.assertEqual(found, tuple(expected_least(book, manner, field) for manner in MANNERS))
                self.assertEqual(found == (None,) * 7, kept(book))
            self.assertEqual(measures(book), measures(book, field=0))

    def test_books_of_no_names_and_of_four(self):
        self.assertEqual(measures(Book(0, [()])), (0, 1, 0, 0, 0, 0, 0))
        self.assertEqual(measures(Book(0, [])), (None,) * 7)
        self.assertEqual(measures(Book(4, [()])), (0, 1, 0, 0, 0, 0, 0))
        self.assertEqual(measures(full(4)), (4, 16, 4, 3, 4, 4, 4))

    def test_errors(self):
        for names in (5, 6, 40):
            for field in (0, 4, -1):
                for call in (measures, account):
                    self.assertEqual(told(call, Book(names, [()]), field=field), raised("TooLarge", names, 4))
        for field in NO_FIELDS:
            for book in (BOOK, Book(0, []), Book(4, [])):
                for call in (measures, account):
                    self.assertEqual(told(call, book, field=field), raised("BadField", field))


class Accounts(unittest.TestCase):

    def check(self, book, field):
        rows = account(book, field=field)
        self.assertIs(type(rows), tuple)
        self.assertEqual(tuple(row[0] for row in rows), MANNERS)
        self.assertEqual(tuple(row[1] for row in rows), measures(book, field=field))
        for manner, measure, paper, thing in rows:
            if measure is None:
                self.assertEqual((paper, thing), (None, None))
                continue
            self.assertTrue(plain(paper))
            self.assertIsNone(paper_fault(book, manner, measure, paper, field=field))
            if measure == 0:
                self.assertIsNone(thing)
            else:
                self.assertTrue(plain(thing))
                self.assertIsNone(liar_fault(book, manner, measure - 1, thing, field=field))
        return rows

    def test_kept_books(self):
        for book in (Book(0, []), Book(4, []), Book(2, [((1, 0),)])):
            self.assertEqual(self.check(book, 0), tuple((manner, None, None, None) for manner in MANNERS))

    def test_the_measure_0(self):
        for book in (Book(0, [()]), Book(4, [(), ((1, 0),)])):
            rows = self.check(book, 0)
            self.assertEqual([row[1] for row in rows], [0, 1, 0, 0, 0, 0, 0])
            self.assertEqual([row[3] is None for row in rows], [True, False, True, True, True, True, True])

    def test_many_books(self):
        for at, book in enumerate(some_books(615)):
            self.check(book, FIELDS[at % 5])
            self.assertEqual(account(book), account(book, field=0))


class Faults(unittest.TestCase):

    def test_trees(self):
        numbers = {"depth": (0, deeper), "leaves": (1, more), "points": (0, branched)}
        source = random.Random(617)
        for book in [BOOK, chain(3), full(3)] + sample_books(618, 30):
            for _ in range(4):
                tree = random_tree(source, book)
                for manner, (leaf, join) in numbers.items() if tree else ():
                    number = number_of(tree, leaf, join)
                    for bound in (number, number + 1, GREAT):
                        self.assertIsNone(paper_fault(book, manner, bound, tree))
                    for bound in range(number):
                        self.assertEqual(paper_fault(book, manner, bound, tree), ((), "bound"))

    def test_wrong_trees(self):
        for manner in ("depth", "leaves", "points"):
            for bound in (0, GREAT):
                self.assertEqual(paper_fault(BOOK, manner, bound, ("ask", 1, TREE, TREE)), (((1, 0),), "again"))
                self.assertEqual(paper_fault(BOOK, manner, bound, ("leaf", 0)), ((), "unbroken"))
        # A book of forty names has trees, too.
        self.assertEqual(paper_fault(chain(40), "depth", 0, ("leaf", 0)), ((), "unbroken"))
        self.assertIsNone(paper_fault(Book(40, [()]), "depth", 0, ("leaf", 0)))

    def test_other_papers(self):
        rows = ((((1, 0),), 2, ("wish", 0), ("wish", 2)), ((), 1, ("wish", 1), ("line", 0)))
        self.assertIsNone(paper_fault(BOOK, "kept", 1, rows))
        self.assertEqual(paper_fault(BOOK, "kept", 0, rows), (0, "wide"))
        self.assertEqual(paper_fault(BOOK, "kept", 1, rows[:1]), (1, "end"))
        paper = (1, ((1, (), 0), (1, (), 1), (1, (1,), 2)))
        self.assertIsNone(paper_fault(BOOK, "sum", 2, paper, field=5))
        self.assertEqual(paper_fault(BOOK, "sum", 1, paper), (0, "degree"))
        self.assertEqual(paper_fault(BOOK, "sum", 2, (5, paper[1]), field=5), (3, "total"))
        self.assertEqual(paper_fault(BOOK, "sum", 2, (3, paper[1])), (3, "sum"))
        self.assertIsNone(paper_fault(BOOK, "sum", 2, (3, paper[1]), field=2))
        steps = (("wish", 0), ("wish", 1), ("wish", 2), ("times", 2, 1), ("sum", ((1, 0), (1, 1), (1, 3))))
        self.assertIsNone(paper_fault(BOOK, "steps", 2, steps))
        self.assertEqual(paper_fault(BOOK, "steps", 1, steps), (0, "degree"))
        self.assertEqual(paper_fault(BOOK, "steps", 2, steps[:4]), (4, "end"))
        self.assertEqual(paper_fault(BOOK, "steps", 2, steps + (("sum", ((2, 4),)),), field=2), (5, "number"))
        rows = ((((1, 0),), -1), (((1, 1),), -1))
        book = Book(1, [((1, 0),), ((1, 1),)])
        self.assertIsNone(paper_fault(book, "chance", 1, rows))
        self.assertEqual(paper_fault(book, "chance", 0, rows), (0, "stand"))

    def test_objects(self):
        for manner in MANNERS:
            thing = either(BOOK, manner, 0)[1]
            self.assertIsNone(liar_fault(BOOK, manner, 0, thing))
        self.assertEqual(liar_fault(BOOK, "depth", 1, ((),)), ((), "stuck"))
        rows = either(BOOK, "leaves", 2)[1]
        self.assertIsNone(liar_fault(BOOK, "leaves", 2, rows))
        self.assertEqual(liar_fault(BOOK, "leaves", 3, rows), (len(rows), "pay"))
        self.assertEqual(liar_fault(BOOK, "leaves", 2, rows[1:]), (0, "row"))
        self.assertEqual(liar_fault(BOOK, "points", 1, (((), 1),)), ((), "empty"))
        self.assertEqual(liar_fault(BOOK, "kept", 0, ((),)), ((), "stuck"))
        self.assertEqual(liar_fault(BOOK, "sum", 1, ()), (0, "row"))
        self.assertEqual(liar_fault(BOOK, "steps", 1, (), field=3), (0, "one"))
        self.assertEqual(liar_fault(BOOK, "chance", 1, ()), (0, "row"))
        # The number of () is 0 over 2.
        self.assertEqual(liar_fault(BOOK, "sum", 0, (((), 2),), field=2), (0, "one"))
        self.assertIsNone(liar_fault(BOOK, "sum", 0, (((), 2),)))

    def test_papers_and_objects_against_other_bounds(self):
        for at, book in enumerate(some_books(619)):
            field = FIELDS[at % 5]
            for manner, measure, paper, thing in account(book, field=field):
                if measure is not None and measure > 0:
                    self.assertIsNotNone(paper_fault(book, manner, measure - 1, paper, field=field))
                    self.assertIsNotNone(liar_fault(book, manner, measure, thing, field=field))


if __name__ == "__main__":
    unittest.main()
