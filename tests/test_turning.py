"""Points 67 to 71 and the interface of turning."""

import random
import unittest

from papersorliars.books import Book
from papersorliars.changes import narrowed
from papersorliars.kept import least_kept
from papersorliars.points import least_points, point_tree
from papersorliars.turning import narrow_lines, tidied, widened
from tests.helpers import (
    all_fillings, chain_book, full_book, leaf_ways, plain, raised, random_book, random_tree, sample_books, told,
    wrong_tree,
)
from tests.least import branched, number_of
from tests.rowpapers import (
    line_at, random_rows, right_rows, rows_fault, some_ends, spoiled_rows, width_of,
)

# The wishes are ((1, 0), (2, 1)), ((1, 1),) and ((2, 0),).
BOOK = Book(2, [((1, 0), (2, 1)), ((1, 1),), ((2, 0),)])
FIRST = (((1, 0),), 2, ("wish", 0), ("wish", 2))
LAST = ((), 1, ("wish", 1), ("line", 0))
ROWS = (FIRST, LAST)


def tidy(book, rows):
    """What points 67 and 68 say, step by step."""
    new, stands_for = [], []

    def what(source):
        return source if source[0] == "wish" else stands_for[source[1]]

    for _, name, left, right in rows:
        b, c = what(left), what(right)
        words = [line_at(book, new, side) for side in (b, c)]
        if (name, 1) not in words[0]:
            stands_for.append(b)
        elif (name, 0) not in words[1]:
            stands_for.append(c)
        else:
            line = tuple(sorted({word for row in words for word in row if word[0] != name}))
            same = [k for k, row in enumerate(new) if row[0] == line]
            if not same:
                new.append((line, name, b, c))
            stands_for.append(("line", same[0] if same else len(new) - 1))
    if not rows or stands_for[-1][0] == "wish":
        return ()
    needed, waiting = set(), [stands_for[-1]]
    while waiting:
        word, number = waiting.pop()
        if word == "line" and number not in needed:
            needed.add(number)
            waiting += new[number][2:]
    places = sorted(needed)

    def numbered(source):
        return source if source[0] == "wish" else ("line", places.index(source[1]))

    return tuple((*new[k][:2], numbered(new[k][2]), numbered(new[k][3])) for k in places)


class Tidied(unittest.TestCase):

    def test_rows_that_are_tidy(self):
        self.assertEqual(tidied(BOOK, ROWS), ROWS)
        self.assertEqual(tidied(BOOK, (FIRST,), ((1, 0),)), (FIRST,))

    def test_no_rows(self):
        self.assertEqual(tidied(Book(0, [()]), ()), ())
        self.assertEqual(tidied(Book(3, [(), ((1, 0),)]), ()), ())
        self.assertEqual(tidied(BOOK, (), ((1, 1),)), ())

    def test_rows_that_are_not_needed(self):
        idle = (((2, 1),), 1, ("wish", 1), ("wish", 0))
        rows = (idle, FIRST, ((), 1, ("wish", 1), ("line", 1)))
        self.assertEqual(tidied(BOOK, rows), ROWS)
        rows = (FIRST, idle, LAST)
        self.assertEqual(tidied(BOOK, rows), ROWS)
        rows = (FIRST, LAST, idle, LAST)
        self.assertEqual(tidied(BOOK, rows), ROWS)

    def test_rows_with_the_same_line(self):
        rows = (FIRST, FIRST, ((), 1, ("wish", 1), ("line", 1)))
        self.assertEqual(tidied(BOOK, rows), ROWS)
        # The row that was made first stays, also if another one with its line has other sources.
        book = Book(3, [((1, 0), (2, 1)), ((1, 0), (2, 0)), ((1, 0), (3, 1)), ((1, 0), (3, 0)), ((1, 1),)])
        index = {wish: k for k, wish in enumerate(book.wishes)}
        two = (((1, 0),), 2, ("wish", index[((1, 0), (2, 1))]), ("wish", index[((1, 0), (2, 0))]))
        three = (((1, 0),), 3, ("wish", index[((1, 0), (3, 1))]), ("wish", index[((1, 0), (3, 0))]))
        unit = ("wish", index[((1, 1),)])
        self.assertEqual(tidied(book, (two, three, ((), 1, unit, ("line", 1)))), (two, ((), 1, unit, ("line", 0))))
        self.assertEqual(tidied(book, (three, two, ((), 1, unit, ("line", 1)))), (three, ((), 1, unit, ("line", 0))))

    def test_lines_become_least(self):
        book = Book(3, BOOK.wishes)
        rows = ((((1, 0), (3, 1)), 2, ("wish", 0), ("wish", 2)), (((3, 1),), 1, ("wish", 1), ("line", 0)))
        self.assertEqual(tidied(book, rows, ((3, 1),)), ROWS)
        self.assertEqual(tidied(book, rows, ((2, 0), (3, 1))), ROWS)

    def test_rows_whose_source_lacks_the_word(self):
        book = Book(3, [((1, 0),), ((1, 1),), ((2, 0),), ((2, 1),)])
        # The left side is looked at first: the row stands for the wish ((1, 0),), then for ((2, 0),).
        both = (((1, 0), (2, 0)), 3, ("wish", 0), ("wish", 2))
        last = (((2, 0),), 1, ("wish", 1), ("line", 0))
        self.assertEqual(tidied(book, (both, last), ((2, 0),)), (((), 1, ("wish", 1), ("wish", 0)),))
        both = (((1, 0), (2, 0)), 3, ("wish", 2), ("wish", 0))
        self.assertEqual(tidied(book, (both, last), ((2, 0),)), ())
        # Only the right side lacks its word.
        book = Book(3, [((1, 0),), ((1, 1),), ((2, 1), (3, 1))])
        left = (((1, 0), (2, 1)), 3, ("wish", 2), ("wish", 0))
        last = (((2, 1),), 1, ("wish", 1), ("line", 0))
        self.assertEqual(tidied(book, (left, last), ((2, 1),)), (((), 1, ("wish", 1), ("wish", 0)),))

    def test_the_last_row_stands_for_a_wish(self):
        book = Book(2, [((1, 0),), ((1, 1),)])
        row = (((1, 0),), 2, ("wish", 0), ("wish", 0))
        self.assertEqual(tidied(book, (row,), ((1, 0),)), ())
        book = Book(2, [(), ((1, 0),)])
        self.assertEqual(tidied(book, (((), 1, ("wish", 0), ("wish", 1)),)), ())
        self.assertEqual(tidied(book, (((), 1, ("wish", 0), ("wish", 0)), ((), 2, ("line", 0), ("line", 0)))), ())

    def test_rows_with_a_fault(self):
        self.assertEqual(told(tidied, BOOK, ()), raised("BadPaper", 0, "end"))
        self.assertEqual(told(tidied, BOOK, (FIRST,)), raised("BadPaper", 1, "end"))
        self.assertEqual(told(tidied, BOOK, (FIRST,), ((2, 0),)), raised("BadPaper", 1, "end"))
        self.assertEqual(told(tidied, BOOK, (LAST, FIRST)), raised("BadPaper", 0, "source"))
        self.assertEqual(told(tidied, BOOK, (), ((1, 0),)), raised("BadPaper", 0, "end"))

    def check(self, book, rows, end):
        found = tidied(book, rows, end)
        self.assertEqual(found, tidy(book, rows))
        self.assertTrue(plain(found))
        self.assertIsNone(rows_fault(book, found, end))
        self.assertLessEqual(len(found), len(rows))
        self.assertLessEqual(width_of(found), width_of(rows))
        self.assertEqual(tidied(book, found, end), found)
        return found

    def test_rows_by_chance(self):
        source = random.Random(161)
        shorter = 0
        for book, rows in right_rows(source, sample_books(162, 70) + [chain_book(5), full_book(4)], 5):
            shorter += len(self.check(book, rows, ())) < len(rows)
        self.assertGreater(shorter, 40)

    def test_ends_by_chance(self):
        source = random.Random(163)
        many = 0
        for book in sample_books(164, 90):
            for end in 4 * some_ends(source, book):
                rows = random_rows(source, book, end)
                if rows is not None:
                    many += len(self.check(book, rows, end)) > 1
        self.assertGreater(many, 20)

    def test_faults_by_chance(self):
        source = random.Random(165)
        for book, rows in right_rows(source, sample_books(166, 30)):
            changed = spoiled_rows(source, book, rows)
            fault = rows_fault(book, changed)
            if fault is None:
                self.check(book, changed, ())
            else:
                self.assertEqual(told(tidied, book, changed), raised("BadPaper", *fault))

    def test_many_rows(self):
        rows = (FIRST,) * 3000 + (LAST[:3] + (("line", 2999),),)
        self.assertEqual(tidied(BOOK, rows), ROWS)
        # A long row of rows each of which needs the one before it.
        book = Book(2, [((1, 0),), ((1, 1),)])
        rows = [((), 1, ("wish", 1), ("wish", 0))]
        while len(rows) < 3000:
            rows.append(((), 1 + len(rows) % 2, ("line", len(rows) - 1), ("line", len(rows) - 1)))
        self.assertEqual(tidied(book, tuple(rows)), tuple(rows[:1]))


class Widened(unittest.TestCase):

    def check(self, book, name, answer, rows):
        end = ((name, 1 - answer),)
        found = widened(book, name, answer, rows)
        self.assertTrue(plain(found))
        self.assertIsNone(rows_fault(book, found, end))
        self.assertLessEqual(len(found), len(rows))
        self.assertLessEqual(width_of(found), width_of(rows) + 1)
        return found

    def test_an_ordinary_paper(self):
        # Narrowed by (1, 1), the book has the wishes ((2, 0),) and ((2, 1),).
        rows = (((), 2, ("wish", 1), ("wish", 0)),)
        self.assertEqual(self.check(BOOK, 1, 1, rows), ((((1, 0),), 2, ("wish", 0), ("wish", 2)),))
        # Narrowed by (1, 0), it has the wish without words.
        self.assertEqual(self.check(BOOK, 1, 0, ()), ())
        self.assertEqual(self.check(BOOK, 2, 1, ()), ())
        rows = (((), 1, ("wish", 1), ("wish", 0)),)
        self.assertEqual(self.check(BOOK, 2, 0, rows), ((((2, 1),), 1, ("wish", 1), ("wish", 0)),))

    def test_rows_that_ask_the_name(self):
        for answer in (0, 1):
            book = Book(2, [((1, 1 - answer), (2, 0)), ((2, 1),)])
            less = narrowed(book, ((1, answer),))
            two = ((), 2, ("wish", 1), ("wish", 0))
            self.assertIsNone(rows_fault(less, (two,)))
            for rows in ((two,), (two, ((), 1, ("line", 0), ("line", 0)))):
                self.assertIsNone(rows_fault(less, rows))
                self.check(book, 1, answer, rows)
            rows = ((((1, 1),), *two[1:]), (((), *two[1:])), ((), 1, ("line", 0), ("line", 1)))
            self.assertIsNone(rows_fault(less, rows))
            self.check(book, 1, answer, rows)
            rows = ((((1, 0),), *two[1:]), (((), *two[1:])), ((), 1, ("line", 1), ("line", 0)))
            self.assertIsNone(rows_fault(less, rows))
            self.check(book, 1, answer, rows)

    def test_no_rows(self):
        for answer in (0, 1):
            for wishes in ([()], [((2, 1 - answer),)], [(), ((2, 1 - answer),)], [((2, 1 - answer),), ((1, 0),)]):
                self.assertEqual(self.check(Book(3, wishes), 2, answer, ()), ())

    def test_bad_names_go_ahead_of_faults(self):
        for name in (0, 3, -1, 10 ** 40):
            for rows in ((), (FIRST,), ROWS, (LAST,)):
                for answer in (0, 1):
                    self.assertEqual(told(widened, BOOK, name, answer, rows), raised("BadName", name))
        self.assertEqual(told(widened, Book(0, [()]), 1, 0, ()), raised("BadName", 1))

    def test_faults_in_the_narrowed_book(self):
        # The paper of the book itself is none for the narrowed book, whose wishes are ((2, 0),) and ((2, 1),).
        self.assertEqual(told(widened, BOOK, 1, 1, ROWS), raised("BadPaper", 0, "source"))
        self.assertEqual(told(widened, BOOK, 1, 1, ()), raised("BadPaper", 0, "end"))
        rows = (((), 2, ("wish", 1), ("wish", 2)),)
        self.assertEqual(told(widened, BOOK, 1, 1, rows), raised("BadPaper", 0, "source"))
        self.assertEqual(told(widened, BOOK, 1, 1, (FIRST[:1] + rows[0][1:3] + (("wish", 0),),)),
                         raised("BadPaper", 1, "end"))

    def test_papers_by_chance(self):
        source = random.Random(167)
        count = {(0, False): 0, (1, False): 0, (0, True): 0, (1, True): 0}
        for book in sample_books(168, 120) + [chain_book(4), full_book(4)]:
            for _ in range(4):
                if not book.names:
                    continue
                name, answer = source.randint(1, book.names), source.randint(0, 1)
                less = narrowed(book, ((name, answer),))
                rows = random_rows(source, less)
                if rows is None:
                    continue
                touched = any(row[1] == name or name in [x for x, _ in row[0]] for row in rows)
                count[(answer, touched)] += 1
                self.check(book, name, answer, rows)
                changed = spoiled_rows(source, less, rows)
                fault = rows_fault(less, changed)
                if fault is None:
                    self.check(book, name, answer, changed)
                else:
                    self.assertEqual(told(widened, book, name, answer, changed), raised("BadPaper", *fault))
        self.assertGreater(min(count.values()), 10)

    def test_a_wish_with_and_without_the_word(self):
        # Both wishes have the same rest; it does not matter which one is used.
        for answer in (0, 1):
            book = Book(2, [((1, 1 - answer), (2, 0)), ((2, 0),), ((1, 1 - answer), (2, 1))])
            self.check(book, 1, answer, (((), 2, ("wish", 1), ("wish", 0)),))


class Narrow(unittest.TestCase):

    def check(self, book, tree):
        rows = narrow_lines(book, tree)
        self.assertTrue(plain(rows))
        self.assertIsNone(rows_fault(book, rows))
        widest = max([1] + [len(wish) for wish in book.wishes])
        self.assertLessEqual(width_of(rows), number_of(tree, 0, branched) + widest - 1)
        self.assertLessEqual(len(rows), (len(leaf_ways(tree)) - 1) * len(book.wishes))
        return rows

    def test_a_leaf(self):
        self.assertEqual(self.check(Book(0, [()]), ("leaf", 0)), ())
        self.assertEqual(self.check(Book(40, [(), ((1, 0), (2, 0))]), ("leaf", 0)), ())

    def test_ordinary_trees(self):
        self.check(BOOK, ("ask", 1, ("leaf", 1), ("ask", 2, ("leaf", 0), ("leaf", 2))))
        self.check(BOOK, ("ask", 2, ("ask", 1, ("leaf", 1), ("leaf", 0)), ("leaf", 2)))
        book = Book(2, [((1, 0),), ((1, 1),)])
        self.assertEqual(self.check(book, ("ask", 1, ("leaf", 1), ("leaf", 0))), (((), 1, ("wish", 1), ("wish", 0)),))
        inner = ("ask", 1, ("leaf", 1), ("leaf", 0))
        self.check(book, ("ask", 2, inner, inner))

    def test_trees_by_chance(self):
        source = random.Random(169)
        count = 0
        books = sample_books(170, 80) + [chain_book(6), full_book(4), full_book(5)]
        books += [random_book(source, 5, 30, 1, 3) for _ in range(12)]
        for book in books:
            for _ in range(4):
                tree = random_tree(source, book)
                if tree is not None:
                    self.check(book, tree)
                    count += 1
        self.assertGreater(count, 120)

    def test_trees_of_least_branching(self):
        source = random.Random(171)
        books = sample_books(172, 60) + [chain_book(6), full_book(5), full_book(6)]
        books += [random_book(source, 5, 24, 1, 3) for _ in range(10)]
        for book in books:
            points = least_points(book)
            if points is not None:
                self.check(book, point_tree(book, points))
                widest = max([1] + [len(wish) for wish in book.wishes])
                self.assertLessEqual(least_kept(book), points + widest - 1)

    def test_narrow_trees_of_wide_books(self):
        # A chain asked in its order has the branching number 1: no line has more than two words.
        book = chain_book(40)
        index = {wish: k for k, wish in enumerate(book.wishes)}
        tree = ("leaf", index[((40, 0),)])
        for name in range(40, 0, -1):
            wish = ((name - 1, 0), (name, 1)) if name > 1 else ((1, 1),)
            tree = ("ask", name, ("leaf", index[wish]), tree)
        self.assertEqual(number_of(tree, 0, branched), 1)
        self.check(book, tree)
        tree = self.halved(index, 0, 41)
        self.check(book, tree)

    def test_the_narrow_side_comes_first(self):
        # A ladder: its names 1 to 6 are answered 1 - v, then each of 7 to 12 breaks a wish with the answer v. From
        # the lowest node upwards, the line would get one word of the names 1 to 6 after the other.
        for v in (0, 1):
            ends = [((x, 1 - v),) for x in range(1, 7)] + [((1, v), (7, 1 - v))]
            ends += [((x - 6, v), (x - 1, v), (x, 1 - v)) for x in range(8, 13)] + [((12, v),)]
            book = Book(12, ends)
            leaves = [("leaf", book.wishes.index(wish)) for wish in ends]
            tree = leaves[12]
            for name in range(12, 0, -1):
                tree = ("ask", name, *((leaves[name - 1], tree) if v == 0 else (tree, leaves[name - 1])))
            self.assertEqual(number_of(tree, 0, branched), 1)
            self.assertLessEqual(width_of(self.check(book, tree)), 3)

    def halved(self, index, low, high):
        """Asks the chain in the middle between a name answered 1 and one answered 0."""
        if high - low == 1:
            wish = tuple(word for word in ((low, 0), (high, 1)) if 1 <= word[0] <= 40)
            return ("leaf", index[wish])
        name = (low + high) // 2
        return ("ask", name, self.halved(index, low, name), self.halved(index, name, high))

    def test_many_leaves(self):
        # Seven names asked behind four that are not needed: 16 times 128 leaves.
        book = Book(40, all_fillings(7))
        tree = self.full_tree(7)
        for name in range(8, 12):
            tree = ("ask", name, tree, tree)
        self.check(book, tree)

    def full_tree(self, size, way=()):
        if len(way) == size:
            return ("leaf", sum((1 - v) << (size - x) for x, v in way))
        name = len(way) + 1
        return ("ask", name, *[self.full_tree(size, way + ((name, v),)) for v in (0, 1)])

    def test_trees_with_a_fault(self):
        self.assertEqual(told(narrow_lines, BOOK, ("leaf", 9)), raised("BadPaper", (), "wish"))
        self.assertEqual(told(narrow_lines, BOOK, ("leaf", 1)), raised("BadPaper", (), "unbroken"))
        tree = ("ask", 1, ("leaf", 1), ("ask", 1, ("leaf", 0), ("leaf", 2)))
        self.assertEqual(told(narrow_lines, BOOK, tree), raised("BadPaper", ((1, 1),), "again"))
        tree = ("ask", 1, ("leaf", 1), ("ask", 3, ("leaf", 0), ("leaf", 2)))
        self.assertEqual(told(narrow_lines, BOOK, tree), raised("BadPaper", ((1, 1),), "name"))
        source = random.Random(174)
        for _ in range(100):
            self.assertEqual(told(narrow_lines, Book(2, []), wrong_tree(source, 2, 3, 3))[1], "BadPaper")

    def test_equal_books_and_books_after_others(self):
        tree = ("ask", 1, ("leaf", 1), ("ask", 2, ("leaf", 0), ("leaf", 2)))
        first = narrow_lines(BOOK, tree)
        narrow_lines(full_book(3), self.full_tree(3))
        self.assertEqual(narrow_lines(Book(2, [[(2, 0)], [(1, 1)], [(2, 1), (1, 0)]]), tree), first)


if __name__ == "__main__":
    unittest.main()
