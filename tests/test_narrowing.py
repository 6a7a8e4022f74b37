"""Point 72 and the interface of narrowing."""

import random
import unittest

from papersorliars.books import Book
from papersorliars.kept import kept_lines
from papersorliars.narrowing import narrowed_lines
from tests.helpers import NO_STANDS, all_stands, chain_book, full_book, plain, raised, sample_books, told
from tests.rowpapers import chain_rows, right_rows, rows_fault, spoiled_rows, width_of

# The wishes are ((1, 0), (2, 1)), ((1, 1),) and ((2, 0),).
BOOK = Book(2, [((1, 0), (2, 1)), ((1, 1),), ((2, 0),)])
FIRST = (((1, 0),), 2, ("wish", 0), ("wish", 2))
LAST = ((), 1, ("wish", 1), ("line", 0))
ROWS = (FIRST, LAST)


def narrowed(book, stand):
    """The book of point 11."""
    wishes = [wish for wish in book.wishes if not set(wish) & set(stand)]
    return Book(book.names, [[(x, v) for x, v in wish if (x, 1 - v) not in stand] for wish in wishes])


class Narrowed(unittest.TestCase):

    def check(self, book, rows, stand):
        found = narrowed_lines(book, rows, stand)
        self.assertTrue(plain(found))
        self.assertIsNone(rows_fault(narrowed(book, stand), found), (book.wishes, rows, stand))
        self.assertLessEqual(len(found), len(rows))
        self.assertLessEqual(width_of(found), width_of(rows))
        return found

    def test_an_ordinary_paper(self):
        self.assertEqual(self.check(BOOK, ROWS, ((1, 0),)), ())
        # The book has the wishes ((2, 0),) and ((2, 1),).
        self.assertEqual(self.check(BOOK, ROWS, ((1, 1),)), (((), 2, ("wish", 1), ("wish", 0)),))
        # The book has the wishes ((1, 0),) and ((1, 1),).
        self.assertEqual(self.check(BOOK, ROWS, ((2, 0),)), (((), 1, ("wish", 1), ("wish", 0)),))
        self.assertEqual(self.check(BOOK, ROWS, ((2, 1),)), ())

    def test_the_stand_without_answers(self):
        self.check(BOOK, ROWS, ())
        book = chain_book(5)
        self.check(book, chain_rows(book), ())

    def test_stands_that_answer_all_names(self):
        for stand in all_stands(2):
            if len(stand) == 2:
                self.assertEqual(self.check(BOOK, ROWS, stand), ())

    def test_no_rows(self):
        for book in (Book(0, [()]), Book(3, [(), ((1, 0),), ((2, 1), (3, 1))])):
            for stand in all_stands(book.names):
                self.assertEqual(self.check(book, (), stand), ())

    def test_stands_that_meet_used_wishes(self):
        # The row 1 is met by (3, 0) with its wishes, and nothing is left of it.
        book = Book(3, [((1, 0), (2, 1), (3, 0)), ((1, 0), (2, 0), (3, 0)), ((1, 0), (3, 1)), ((1, 1),)])
        index = {wish: k for k, wish in enumerate(book.wishes)}
        sources = [("wish", index[wish]) for wish in (((1, 0), (2, 1), (3, 0)), ((1, 0), (2, 0), (3, 0)),
                                                     ((1, 0), (3, 1)), ((1, 1),))]
        rows = ((((1, 0), (3, 0)), 2, sources[0], sources[1]), (((1, 0),), 3, sources[2], ("line", 0)),
                ((), 1, sources[3], ("line", 1)))
        self.assertIsNone(rows_fault(book, rows))
        for stand in all_stands(3):
            self.check(book, rows, stand)
        self.assertEqual(self.check(book, rows, ((3, 0),)), (((), 1, ("wish", 1), ("wish", 0)),))

    def test_words_that_the_rows_need_not_have(self):
        # The line has the word (3, 1) although no source has it: a stand may meet it or deny it.
        book = Book(3, BOOK.wishes)
        rows = ((((1, 0), (3, 1)), 2, ("wish", 0), ("wish", 2)), FIRST, (((1, 0),), 3, ("line", 0), ("line", 1)),
                ((), 1, ("wish", 1), ("line", 2)))
        self.assertIsNone(rows_fault(book, rows))
        for stand in all_stands(3):
            self.check(book, rows, stand)

    def test_different_wishes_with_the_same_rest(self):
        book = Book(3, [((1, 0), (2, 1)), ((1, 0), (2, 1), (3, 0)), ((1, 0), (2, 0)), ((1, 1),)])
        for bound in (1, 2):
            rows = kept_lines(book, bound)
            for stand in all_stands(3):
                self.check(book, rows, stand)

    def test_papers_of_many_books(self):
        source = random.Random(351)
        count = {kind: 0 for kind in ("free", "asked", "met", "all", "shorter")}
        books = sample_books(352, 70) + [chain_book(4), full_book(4)]
        for book, rows in right_rows(source, books, 4):
            for stand in source.sample(all_stands(book.names), min(9, 3 ** book.names)):
                found = self.check(book, rows, stand)
                used = [book.wishes[k] for row in rows for word, k in row[2:] if word == "wish"]
                count["free"] += not {x for x, _ in stand} & {row[1] for row in rows}
                count["asked"] += bool({x for x, _ in stand} & {row[1] for row in rows})
                count["met"] += any(set(wish) & set(stand) for wish in used)
                count["all"] += len(stand) == book.names
                count["shorter"] += 0 < len(found) < len(rows)
        self.assertGreater(min(count.values()), 50)

    def test_papers_of_least_width(self):
        for book in (chain_book(4), full_book(4), chain_book(6), full_book(3)):
            for bound in range(book.names):
                rows = kept_lines(book, bound)
                if rows is not None:
                    for stand in all_stands(book.names)[::5]:
                        self.check(book, rows, stand)

    def test_forty_names(self):
        book = chain_book(40)
        rows = chain_rows(book)
        for stand in (((20, 0),), ((20, 1),), ((1, 1),), ((40, 0),), ((10, 1), (30, 0)), ((10, 0), (30, 1)),
                      tuple((x, 1) for x in range(1, 41)), tuple((x, x % 2) for x in range(1, 41, 3))):
            self.check(book, rows, stand)
        self.check(book, rows[:1] * 1000 + tuple(
            (*row[:3], ("line", row[3][1] + 1000) if row[3][0] == "line" else row[3]) for row in rows), ((7, 1),))

    def test_stands_that_are_none(self):
        book = Book(3, BOOK.wishes)
        rows = ((((1, 0),), 2, ("wish", 0), ("wish", 2)), ((), 1, ("wish", 1), ("line", 0)))
        for stand in NO_STANDS:
            for papers in (rows, (), rows[::-1], rows[:1], ((((9, 9),), 9, ("x", 9), ("x", 9)),)):
                self.assertEqual(told(narrowed_lines, book, papers, stand), raised("BadStand", stand))

    def test_rows_with_a_fault(self):
        for stand in ((), ((1, 0),), ((1, 1), (2, 0))):
            self.assertEqual(told(narrowed_lines, BOOK, (), stand), raised("BadPaper", 0, "end"))
            self.assertEqual(told(narrowed_lines, BOOK, (FIRST,), stand), raised("BadPaper", 1, "end"))
            self.assertEqual(told(narrowed_lines, BOOK, (LAST, FIRST), stand), raised("BadPaper", 0, "source"))
        source = random.Random(353)
        for book, rows in right_rows(source, sample_books(354, 25)):
            changed = spoiled_rows(source, book, rows)
            fault = rows_fault(book, changed)
            stand = source.choice(all_stands(book.names))
            if fault is None:
                self.check(book, changed, stand)
            else:
                self.assertEqual(told(narrowed_lines, book, changed, stand), raised("BadPaper", *fault))


if __name__ == "__main__":
    unittest.main()
