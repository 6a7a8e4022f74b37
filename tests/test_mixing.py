"""Points 99 and 106 to 110 and the interface of mixing."""

import random
import unittest

from papersorliars.books import Book
from papersorliars.changes import narrowed
from papersorliars.chances import chances, chances_fault
from papersorliars.designs import design_fault
from papersorliars.kept import keep_liar_fault, kept_lines
from papersorliars.mixing import (
    added_chances, chances_after, chances_design, chances_keep, cut, filling_chances, joined_chances, line_weights,
    sum_weights, tree_weights,
)
from papersorliars.sums import sum_paper
from papersorliars.weights import weights_fault
from tests import algebra, chancerows
from tests.helpers import (
    NO_STANDS, add, all_fillings, all_stands, broken, chain_book, full_book, leaf_ways, plain, raised,
    random_book, random_tree, sample_books, told,
)
from tests.least import deeper, number_of
from tests.rowpapers import chain_rows, line_at, right_rows, width_of

GREAT = 10 ** 40 - 1
# The wishes are ((1, 0), (2, 1)), ((1, 1),) and ((2, 0),).
BOOK = Book(2, [((1, 0), (2, 1)), ((1, 1),), ((2, 0),)])
FULL = full_book(2)
TREE = ("ask", 1, ("leaf", 1), ("ask", 2, ("leaf", 0), ("leaf", 2)))
PAPER = (1, ((1, (), 0), (1, (), 1), (1, (1,), 2)))
LINES = ((((1, 0),), 2, ("wish", 0), ("wish", 2)), ((), 1, ("wish", 1), ("line", 0)))
# Chances of the bound 1 for FULL.
ROWS = (((), 2), (((1, 0),), 1), (((1, 1),), 1), (((2, 0),), 1), (((2, 1),), 1))


def denied(row):
    return tuple((x, 1 - v) for x, v in row)


def some_books(seed):
    source = random.Random(seed)
    return sample_books(seed + 1, 50) + [chain_book(4), full_book(4)] + [
        random_book(source, 4, many, 1, 3) for many in (8, 12, 20, 30)]


class Trees(unittest.TestCase):

    def check(self, book, tree):
        found = tree_weights(book, tree)
        bound = number_of(tree, 0, deeper)
        self.assertTrue(plain(found))
        pairs = [(way, -1) for way, _ in leaf_ways(tree)]
        self.assertEqual(found, chancerows.collected_weights(book.names, bound, pairs))
        self.assertIsNone(chancerows.weights_fault(book, bound, found))
        return found

    def test_ordinary_trees(self):
        self.assertEqual(self.check(BOOK, TREE), tuple((filling, -1) for filling in all_fillings(2)))
        self.assertEqual(self.check(Book(0, [()]), ("leaf", 0)), (((), -1),))
        self.assertEqual(self.check(Book(4, [()]), ("leaf", 0)), (((), -1),))
        self.assertEqual(self.check(Book(2, [()]), ("ask", 2, ("leaf", 0), ("leaf", 0))), ((((2, 0),), -1), (((2, 1),), -1)))

    def test_ways_that_are_spread_to_the_same_stand(self):
        # The way ((1, 0),) is spread to the name 2, and the way ((2, 1),) never stands alone in a tree.
        book = Book(3, [()])
        leaf = ("leaf", 0)
        tree = ("ask", 1, leaf, ("ask", 3, leaf, leaf))
        expected = ((((1, 0), (2, 0)), -1), (((1, 0), (2, 1)), -1), (((1, 1), (3, 0)), -1), (((1, 1), (3, 1)), -1))
        self.assertEqual(self.check(book, tree), expected)

    def test_trees_by_chance(self):
        source = random.Random(551)
        count = 0
        for book in some_books(552):
            for _ in range(4):
                tree = random_tree(source, book)
                if tree is not None:
                    self.check(book, tree)
                    count += 1
        self.assertGreater(count, 80)

    def test_wrong_trees(self):
        for tree, place, kind in ((("leaf", 0), (), "unbroken"), (("leaf", 3), (), "wish"),
                                  (("ask", 3, ("leaf", 0), ("leaf", 0)), (), "name"),
                                  (("ask", 1, ("ask", 1, TREE, TREE), TREE), ((1, 0),), "again")):
            self.assertEqual(told(tree_weights, BOOK, tree), raised("BadPaper", place, kind))


class Sums(unittest.TestCase):

    def check(self, book, paper):
        found = sum_weights(book, paper)
        self.assertTrue(plain(found))
        total, rows = paper
        bound = max([len(row) + len(book.wishes[index]) for _, row, index in rows])
        pairs = []
        for number, row, index in rows:
            stand = tuple(sorted(denied(book.wishes[index]) + tuple((x, 1) for x in row)))
            pairs.append((stand, -number if total > 0 else number))
        self.assertEqual(found, chancerows.collected_weights(book.names, bound, pairs))
        self.assertIsNone(chancerows.weights_fault(book, bound, found))
        return found

    def test_ordinary_sums(self):
        # The stands are ((1, 1), (2, 0)), ((1, 0),) and ((1, 1), (2, 1)).
        self.assertEqual(self.check(BOOK, PAPER), tuple((filling, -1) for filling in all_fillings(2)))
        self.assertEqual(self.check(Book(0, [()]), (1, ((1, (), 0),))), (((), -1),))
        self.assertEqual(self.check(Book(4, [()]), (5, ((5, (), 0),))), (((), -5),))

    def test_totals_below_0(self):
        paper = (-1, tuple((-number, row, index) for number, row, index in PAPER[1]))
        self.assertEqual(self.check(BOOK, paper), tuple((filling, -1) for filling in all_fillings(2)))
        self.assertEqual(self.check(Book(1, [()]), (-3, ((-3, (), 0),))), (((), -3),))

    def test_rows_that_stand_twice_and_rows_that_come_to_0(self):
        paper = (1, PAPER[1] + ((4, (), 1), (-2, (), 1), (-2, (), 1)))
        self.assertEqual(self.check(BOOK, paper), self.check(BOOK, PAPER))

    def test_sums_of_many_books(self):
        count = 0
        for book in some_books(553):
            for bound in (1, 2, 3, 4):
                paper = sum_paper(book, 0, bound)
                if paper is not None:
                    found = self.check(book, paper)
                    self.assertEqual(self.check(book, (-paper[0], tuple((-n, p, k) for n, p, k in paper[1]))), found)
                    count += 1
        self.assertGreater(count, 60)

    def test_wrong_sums(self):
        for paper, place, kind in (((1, PAPER[1][:2]), 2, "sum"), ((0, PAPER[1]), 3, "total"), ((1, ()), 0, "sum"),
                                   ((1, ((0, (), 0),)), 0, "number"), ((1, ((1, (3,), 0),)), 0, "product"),
                                   ((1, ((1, (), 3),)), 0, "wish"), ((1, ((1, (1,), 1),)), 0, "meets")):
            self.assertEqual(told(sum_weights, BOOK, paper), raised("BadPaper", place, kind))
        # The sum is right over 2 and over no other field.
        self.assertEqual(told(sum_weights, BOOK, (3, PAPER[1])), raised("BadPaper", 3, "sum"))


def uses_of(rows, number):
    """How often the last row uses the row: once itself, and at each place of a later row as often as that one."""
    if number == len(rows) - 1:
        return 1
    later = range(number + 1, len(rows))
    return sum(uses_of(rows, k) * rows[k][2:].count(("line", number)) for k in later)


class Lines(unittest.TestCase):

    def check(self, book, rows):
        found = line_weights(book, rows)
        self.assertTrue(plain(found))
        pairs = [] if rows else [((), -1)]
        for number, (line, name, left, right) in enumerate(rows):
            u = uses_of(rows, number)
            for answer, source in ((0, left), (1, right)):
                t, h = add(denied(line), name, answer), denied(line_at(book, rows, source))
                for x, v in t:
                    if (x, v) not in h:
                        lesser = {pair for pair in t if pair[0] < x}
                        pairs.append((tuple(sorted({*h, *lesser, (x, 1 - v)})), u))
                if source[0] == "wish":
                    pairs.append((h, -u))
        bound = width_of(rows) + 1 if rows else 0
        self.assertEqual(found, chancerows.collected_weights(book.names, bound, pairs))
        self.assertIsNone(chancerows.weights_fault(book, bound, found))
        return found

    def test_the_example(self):
        book = Book(3, [((1, 0), (2, 1)), ((1, 1),), ((2, 0), (3, 1)), ((3, 0),)])
        rows = ((((2, 1),), 1, ("wish", 1), ("wish", 0)), (((3, 1),), 2, ("line", 0), ("wish", 2)),
                ((), 3, ("line", 1), ("wish", 3)))
        self.assertEqual(self.check(book, rows), (
            (((1, 0), (2, 0)), -1), (((1, 0), (3, 1)), -1), (((1, 1), (2, 0)), -1), (((1, 1), (3, 1)), -1),
            (((2, 0), (3, 1)), 1), (((2, 1), (3, 0)), -1)))

    def test_no_rows(self):
        for book in (Book(0, [()]), Book(4, [(), ((1, 0),)])):
            self.assertEqual(self.check(book, ()), (((), -1),))

    def test_ordinary_rows(self):
        self.check(BOOK, LINES)
        for size in (2, 3, 4):
            self.check(chain_book(size), chain_rows(chain_book(size)))

    def test_rows_that_several_rows_use(self):
        # The row 1 is both sources of the row 2, the row 0 is not used beside the row 1, and the row 3 not at all.
        rows = LINES + (((), 2, ("line", 1), ("line", 1)), (((1, 0),), 2, ("line", 0), ("wish", 2)),
                        (((2, 0),), 1, ("line", 2), ("line", 1)), ((), 2, ("line", 2), ("line", 4)))
        self.assertEqual([uses_of(rows, k) for k in range(6)], [5, 5, 2, 0, 1, 1])
        self.check(BOOK, rows)

    def test_rows_that_are_not_used(self):
        rows = ((((1, 0), (2, 1)), 3, ("wish", 0), ("wish", 0)),) + tuple(
            (line, name, *[("line", k + 1) if word == "line" else (word, k) for word, k in sides])
            for line, name, *sides in LINES)
        self.check(Book(3, BOOK.wishes), rows)

    def test_rows_of_many_books(self):
        source = random.Random(554)
        count = 0
        for book, rows in right_rows(source, some_books(555), 3):
            if len(rows) < 14:
                self.check(book, rows)
                count += len(rows) > 2
        self.assertGreater(count, 25)

    def test_papers_of_least_width(self):
        for book in some_books(556):
            for bound in range(4):
                rows = kept_lines(book, bound)
                if rows is not None and len(rows) < 16:
                    self.check(book, rows)

    def test_great_numbers_of_uses(self):
        rows = LINES
        for at in range(60):
            rows = rows + (((), 1 + at % 2, ("line", at + 1), ("line", at + 1)),)
        found = line_weights(BOOK, rows)
        self.assertIsNone(weights_fault(BOOK, 2, found))

    def test_wrong_rows(self):
        for rows, place, kind in (((), 0, "end"), (LINES[:1], 1, "end"), (LINES[1:], 0, "source"),
                                  ((((), 3, *LINES[0][2:]),), 0, "name")):
            self.assertEqual(told(line_weights, BOOK, rows), raised("BadPaper", place, kind))


def some_chances(books, bounds=(0, 1, 2, 3, 4, GREAT)):
    for book in books:
        for bound in bounds:
            rows = chances(book, bound)
            if rows is not None:
                yield book, bound, rows


class Objects(unittest.TestCase):

    def test_kept_answers(self):
        self.assertEqual(chances_keep(FULL, 1, ROWS), ((), ((1, 0),), ((1, 1),), ((2, 0),), ((2, 1),)))
        self.assertEqual(chances_keep(FULL, 0, (((), 3),)), ((),))
        for book, bound, rows in some_chances(some_books(557)):
            found = chances_keep(book, bound, rows)
            self.assertEqual(found, tuple(stand for stand, number in rows if number > 0))
            if bound > 0:
                self.assertIsNone(keep_liar_fault(book, bound - 1, found))

    def test_designs(self):
        self.assertEqual(chances_design(FULL, 1, ROWS), (((), 2), ((1,), 1), ((2,), 1)))
        for book, bound, rows in some_chances(some_books(558)):
            numbers = dict(rows)
            found = chances_design(book, bound, rows)
            expected = [(p, numbers[tuple((x, 1) for x in p)]) for p in algebra.products(book.names, bound)]
            self.assertEqual(found, tuple(expected))
            self.assertIsNone(design_fault(book, 0, bound, found))
            self.assertIsNone(algebra.design_fault(book, 0, bound, found))

    def test_wrong_chances(self):
        bad = (((), 0), *ROWS[1:])
        for call in (chances_keep, chances_design):
            self.assertEqual(told(call, FULL, 1, bad), raised("BadLiar", 0, "total"))
            self.assertEqual(told(call, FULL, 2, ROWS), raised("BadLiar", 2, "row"))
            self.assertEqual(told(call, BOOK, 1, ROWS), raised("BadLiar", 1, "broken"))


class Cut(unittest.TestCase):

    def test_an_ordinary_row(self):
        self.assertEqual(cut(FULL, 1, ROWS, 0), (((), 2),))
        for lesser in (1, 2, GREAT):
            self.assertEqual(cut(FULL, 1, ROWS, lesser), ROWS)

    def test_chances_of_many_books(self):
        for book, bound, rows in some_chances(some_books(559)):
            for lesser in (0, 1, 2, 3, 5, GREAT):
                found = cut(book, bound, rows, lesser)
                self.assertEqual(found, tuple(pair for pair in rows if len(pair[0]) <= lesser))
                if lesser <= bound:
                    self.assertIsNone(chancerows.chances_fault(book, lesser, found))

    def test_wrong_chances(self):
        self.assertEqual(told(cut, FULL, 1, ROWS[:2], 0), raised("BadLiar", 2, "row"))
        self.assertEqual(told(cut, FULL, 0, ROWS, 0), raised("BadLiar", 1, "row"))


class Added(unittest.TestCase):

    def test_one_and_several(self):
        self.assertEqual(added_chances(FULL, 1, ROWS), ROWS)
        other = (((), 3), (((1, 0),), 0), (((1, 1),), 3), (((2, 0),), 1), (((2, 1),), 2))
        both = (((), 5), (((1, 0),), 1), (((1, 1),), 4), (((2, 0),), 2), (((2, 1),), 3))
        self.assertEqual(added_chances(FULL, 1, ROWS, other), both)
        self.assertEqual(added_chances(FULL, 1, other, ROWS), both)
        self.assertEqual(added_chances(FULL, 1, *[ROWS] * 7), tuple((stand, 7 * number) for stand, number in ROWS))

    def test_none(self):
        for bound in (0, 1, GREAT):
            self.assertEqual(told(added_chances, FULL, bound), raised("NoLiar", bound))
            self.assertEqual(told(added_chances, Book(0, [()]), bound), raised("NoLiar", bound))

    def test_the_first_wrong_one_of_several(self):
        below, short = (((), -1), *ROWS[1:]), ROWS[:3]
        self.assertEqual(told(added_chances, FULL, 1, ROWS, below, short), raised("BadLiar", 0, "below"))
        self.assertEqual(told(added_chances, FULL, 1, ROWS, short, ROWS, below), raised("BadLiar", 3, "row"))
        self.assertEqual(told(added_chances, FULL, 1, (((), 0), *ROWS[1:])), raised("BadLiar", 0, "total"))

    def test_chances_of_many_books(self):
        for book, bound, rows in some_chances(sample_books(560, 50)):
            more = [chancerows.counted(book, bound, [f]) for f in all_fillings(book.names) if not broken(book, f)]
            found = added_chances(book, bound, rows, *more, rows)
            self.assertTrue(plain(found))
            self.assertIsNone(chancerows.chances_fault(book, bound, found))
            for stand, number in found:
                self.assertEqual(number, 2 * dict(rows)[stand] + sum(dict(one)[stand] for one in more))


class After(unittest.TestCase):

    def expected(self, book, bound, rows, name, answer):
        numbers = dict(rows)
        found = []
        for stand in all_stands(book.names, min(bound - 1, book.names)):
            if name not in dict(stand):
                found.append((stand, numbers[add(stand, name, answer)]))
            else:
                found.append((stand, numbers[stand] if (name, answer) in stand else 0))
        return tuple(found)

    def test_ordinary_chances(self):
        self.assertEqual(chances_after(FULL, 1, ROWS, 1, 0), (((), 1),))
        book = Book(2, [((1, 0), (2, 1))])
        rows = chancerows.counted(book, 2, [((1, 0), (2, 0)), ((1, 0), (2, 1)), ((1, 1), (2, 1))])
        self.assertEqual(chances_after(book, 2, rows, 1, 0),
                         (((), 2), (((1, 0),), 2), (((1, 1),), 0), (((2, 0),), 1), (((2, 1),), 1)))
        self.assertEqual(chances_after(book, 2, rows, 2, 1),
                         (((), 2), (((1, 0),), 1), (((1, 1),), 1), (((2, 0),), 0), (((2, 1),), 2)))

    def test_chances_of_many_books(self):
        count = {True: 0, False: 0}
        for book, bound, rows in some_chances(some_books(561)):
            for name in range(1, book.names + 1):
                for answer in (0, 1):
                    found = told(chances_after, book, bound, rows, name, answer)
                    if bound == 0 or dict(rows)[((name, answer),)] == 0:
                        self.assertEqual(found, raised("NoLiar", bound))
                    else:
                        self.assertEqual(found, self.expected(book, bound, rows, name, answer))
                        less = narrowed(book, ((name, answer),))
                        self.assertIsNone(chancerows.chances_fault(less, bound - 1, found))
                    count[bound > 0] += 1
        self.assertGreater(min(count.values()), 50)

    def test_no_liar(self):
        rows = (((), 3), (((1, 0),), 0), (((1, 1),), 3), (((2, 0),), 1), (((2, 1),), 2))
        self.assertEqual(told(chances_after, FULL, 1, rows, 1, 0), raised("NoLiar", 1))
        self.assertEqual(chances_after(FULL, 1, rows, 1, 1), (((), 3),))
        for name in (1, 2):
            for answer in (0, 1):
                self.assertEqual(told(chances_after, FULL, 0, (((), 3),), name, answer), raised("NoLiar", 0))

    def test_the_order_of_errors(self):
        bad = (((), 0),)
        for name in (0, -1, 3, 10 ** 40):
            for bound in (0, 1):
                for rows in (bad, ROWS, (((), 1),)):
                    self.assertEqual(told(chances_after, FULL, bound, rows, name, 0), raised("BadName", name))
                    self.assertEqual(told(chances_after, Book(5, []), bound, rows, name, 0), raised("TooLarge", 5, 4))
        self.assertEqual(told(chances_after, FULL, 0, bad, 1, 0), raised("BadLiar", 0, "total"))
        self.assertEqual(told(chances_after, FULL, 1, bad, 1, 0), raised("BadLiar", 1, "row"))
        self.assertEqual(told(chances_after, Book(0, []), 0, (((), 1),), 1, 0), raised("BadName", 1))


class Fillings(unittest.TestCase):

    def test_ordinary_fillings(self):
        book = Book(2, [((1, 0), (2, 1))])
        one, two = ((1, 0), (2, 0)), ((1, 1), (2, 1))
        self.assertEqual(filling_chances(book, 1, (one,)), (((), 1), (((1, 0),), 1), (((1, 1),), 0), (((2, 0),), 1),
                                                            (((2, 1),), 0)))
        for row in ((one, two), (one, one, two), (two,) * 9):
            for bound in (0, 1, 2, 3, GREAT):
                found = filling_chances(book, bound, row)
                self.assertEqual(found, chancerows.counted(book, bound, row))
                self.assertIsNone(chances_fault(book, bound, found))
        self.assertEqual(filling_chances(Book(0, []), 0, ((), ())), (((), 2),))

    def test_fillings_of_many_books(self):
        source = random.Random(562)
        for book in some_books(563):
            keeping = [filling for filling in all_fillings(book.names) if not broken(book, filling)]
            for bound in (0, 1, 2, 3, 4, GREAT) if keeping else ():
                row = tuple(source.choice(keeping) for _ in range(source.randint(1, 6)))
                self.assertEqual(filling_chances(book, bound, row), chancerows.counted(book, bound, row))

    def test_stands_that_are_no_filling_or_break_the_book(self):
        book = Book(3, [((1, 0), (2, 1))])
        good = ((1, 0), (2, 0), (3, 1))
        bad = NO_STANDS + [(), ((1, 0),), ((1, 0), (2, 0)), ((1, 1), (2, 0), (3, 0)), ((1, 1), (2, 0), (3, 1))]
        for stand in bad:
            for bound in (0, GREAT):
                self.assertEqual(told(filling_chances, book, bound, (stand,)), raised("BadStand", stand))
                self.assertEqual(told(filling_chances, book, bound, (good, stand, bad[0])), raised("BadStand", stand))

    def test_no_fillings(self):
        for bound in (0, 1, GREAT):
            for book in (BOOK, Book(0, []), Book(4, [()])):
                self.assertEqual(told(filling_chances, book, bound, ()), raised("NoLiar", bound))


class Joined(unittest.TestCase):

    def test_an_ordinary_pair(self):
        one, two = Book(1, []), Book(1, [((1, 0),)])
        rows, others = (((), 5), (((1, 0),), 2), (((1, 1),), 3)), (((), 7), (((1, 0),), 7), (((1, 1),), 0))
        self.assertEqual(joined_chances(one, two, 1, rows, others), (
            ((), 35), (((1, 0),), 14), (((1, 1),), 21), (((2, 0),), 35), (((2, 1),), 0)))
        found = dict(joined_chances(one, two, 2, rows, others))
        self.assertEqual((found[((1, 1), (2, 0))], found[((1, 1), (2, 1))]), (21, 0))

    def test_pairs_of_books(self):
        books = sample_books(564, 18, 2) + [Book(3, [((1, 0), (3, 1))]), full_book(3)]
        count = 0
        for first in books:
            for second in books:
                for bound in (0, 1, 2, 4, GREAT):
                    rows, others = chances(first, bound), chances(second, bound)
                    if rows is not None and others is not None and first.names + second.names <= 4:
                        found = joined_chances(first, second, bound, rows, others)
                        both = first + second
                        self.assertIsNone(chancerows.chances_fault(both, bound, found))
                        for stand, number in found:
                            at = [pair for pair in stand if pair[0] <= first.names]
                            rest = [(x - first.names, v) for x, v in stand if x > first.names]
                            self.assertEqual(number, dict(rows)[tuple(at)] * dict(others)[tuple(rest)])
                        count += 1
        self.assertGreater(count, 200)

    def test_too_many_names(self):
        for first, second in ((2, 3), (5, 0), (0, 5), (4, 1), (40, 40)):
            for bound in (0, GREAT):
                self.assertEqual(told(joined_chances, Book(first, []), Book(second, []), bound, (), ()),
                                 raised("TooLarge", first + second, 4))

    def test_wrong_chances(self):
        none, bad = (), (((), -1),)
        self.assertEqual(told(joined_chances, FULL, FULL, 0, none, bad), raised("BadLiar", 0, "row"))
        self.assertEqual(told(joined_chances, FULL, FULL, 0, bad, none), raised("BadLiar", 0, "below"))
        self.assertEqual(told(joined_chances, FULL, FULL, 0, (((), 1),), none), raised("BadLiar", 0, "row"))
        self.assertEqual(told(joined_chances, FULL, FULL, 0, (((), 1),), bad), raised("BadLiar", 0, "below"))
        self.assertEqual(told(joined_chances, FULL, Book(1, [()]), 0, (((), 1),), (((), 1),)),
                         raised("BadLiar", 0, "broken"))

    def test_the_new_book_is_not_made(self):
        # Side by side the books would have more than 128 wishes, which two books of so few names never have;
        # so books are taken here that are too large together, with too many wishes.
        many = Book(5, all_stands(5)[115:])
        self.assertEqual(told(joined_chances, many, Book(1, [()]), 0, (), ()), raised("TooLarge", 6, 4))
        wide = Book(4, [stand for stand in all_stands(4) if len(stand) > 1])
        self.assertEqual(len(wide.wishes), 72)
        rows = filling_chances(Book(4, []), 0, (all_fillings(4)[3],))
        self.assertEqual(joined_chances(wide, Book(0, []), 0, rows, (((), 2),)), (((), 2),))
        self.assertEqual(told(joined_chances, wide, wide, 0, rows, rows), raised("TooLarge", 8, 4))


class Errors(unittest.TestCase):

    def test_too_many_names_go_ahead(self):
        for names in (5, 6, 40):
            book = Book(names, [()])
            calls = [(tree_weights, ("leaf", 9)), (sum_weights, (0, ())), (line_weights, ((((9, 9),), 9, ("x", 1), ("x", 1)),)),
                     (chances_keep, 1, ()), (chances_design, 1, ()), (cut, 1, (), 0), (added_chances, 1),
                     (added_chances, 1, ()), (chances_after, 1, (), 99, 0), (filling_chances, 1, ()),
                     (filling_chances, 1, ((),)), (joined_chances, Book(0, []), 0, (), ())]
            for call, *rest in calls:
                self.assertEqual(told(call, book, *rest), raised("TooLarge", names, 4), call)
            self.assertEqual(told(joined_chances, Book(1, []), book, 0, (), ()), raised("TooLarge", names + 1, 4))


if __name__ == "__main__":
    unittest.main()
