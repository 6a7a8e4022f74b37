"""Points 65 and 66 and the interface of askers."""

import random
import unittest

from papersorliars.askers import LineAsker, asking
from papersorliars.books import Book
from papersorliars.errors import NoLiar
from papersorliars.keepliars import KeepLiar
from papersorliars.kept import kept_lines, least_kept
from tests.helpers import against, broken, chain_book, full_book, plain, raised, sample_books, told
from tests.rowpapers import chain_rows, line_at, right_rows, rows_fault, spoiled_rows, width_of

# The wishes are ((1, 0), (2, 1)), ((1, 1),) and ((2, 0),).
BOOK = Book(2, [((1, 0), (2, 1)), ((1, 1),), ((2, 0),)])
FIRST = (((1, 0),), 2, ("wish", 0), ("wish", 2))
LAST = ((), 1, ("wish", 1), ("line", 0))
ROWS = (FIRST, LAST)


def denying(line):
    return tuple((x, 1 - v) for x, v in line)


class OtherLiar:
    """A liar that tells what it is asked to do."""

    def __init__(self, answers, stand=()):
        self.answers = list(answers)
        self.stand = stand
        self.deeds = []

    def forget(self, *names):
        self.deeds += [("forget", name) for name in names]
        self.stand = tuple(pair for pair in self.stand if pair[0] not in names)

    def __call__(self, name):
        self.deeds.append(("asked", name))
        answer = self.answers.pop(0)
        self.stand = tuple(sorted(self.stand + ((name, answer),)))
        return answer


class Askers(unittest.TestCase):

    def test_an_ordinary_asker(self):
        asker = LineAsker(BOOK, ROWS)
        self.assertEqual((asker.book, asker.held, asker.question), (BOOK, (), 1))
        self.assertIsNone(asker.hear(1))
        self.assertEqual((asker.held, asker.question), (((1, 1),), 2))
        self.assertIsNone(asker.hear(0))
        self.assertEqual((asker.held, asker.question), (((1, 1), (2, 0)), None))
        asker = LineAsker(BOOK, ROWS)
        asker.hear(0)
        self.assertEqual((asker.held, asker.question), (((1, 0),), None))

    def test_the_other_answer_at_the_first_row(self):
        asker = LineAsker(BOOK, ROWS)
        asker.hear(1)
        asker.hear(1)
        # It holds exactly what denies the wish ((2, 0),), so it has forgotten the answer to 1.
        self.assertEqual((asker.held, asker.question), (((2, 1),), None))

    def test_answers_without_a_question_change_nothing(self):
        asker = LineAsker(BOOK, ROWS)
        asker.hear(0)
        for answer in (0, 1, 0):
            self.assertIsNone(asker.hear(answer))
            self.assertEqual((asker.held, asker.question), (((1, 0),), None))

    def test_no_rows(self):
        for book in (Book(0, [()]), Book(3, [(), ((1, 0),)]), Book(40, [()])):
            asker = LineAsker(book, ())
            self.assertEqual((asker.book, asker.held, asker.question), (book, (), None))
            asker.hear(0)
            asker.hear(1)
            self.assertEqual((asker.held, asker.question), ((), None))

    def test_rows_of_a_book_with_the_wish_without_words(self):
        # The stand () breaks this wish, so there is no question although there are rows.
        book = Book(2, [(), ((1, 0),), ((1, 1),)])
        asker = LineAsker(book, (((), 1, ("wish", 2), ("wish", 1)),))
        self.assertEqual((asker.held, asker.question), ((), None))
        asker.hear(1)
        self.assertEqual((asker.held, asker.question), ((), None))

    def test_a_row_whose_line_breaks_a_wish(self):
        # The row 0 has the line ((1, 0),), which is a wish: at it there is no question.
        book = Book(2, [((1, 0),), ((1, 1),), ((2, 0),), ((2, 1),)])
        rows = ((((1, 0),), 2, ("wish", 3), ("wish", 2)), ((), 1, ("wish", 1), ("line", 0)))
        asker = LineAsker(book, rows)
        asker.hear(1)
        self.assertEqual((asker.held, asker.question), (((1, 1),), None))

    def test_rows_with_a_fault(self):
        self.assertEqual(told(LineAsker, BOOK, ()), raised("BadPaper", 0, "end"))
        self.assertEqual(told(LineAsker, BOOK, (FIRST,)), raised("BadPaper", 1, "end"))
        self.assertEqual(told(LineAsker, BOOK, (LAST, FIRST)), raised("BadPaper", 0, "source"))
        self.assertEqual(told(LineAsker, BOOK, (FIRST, ((), 3, ("wish", 1), ("line", 0)))),
                         raised("BadPaper", 1, "name"))
        source = random.Random(151)
        for book, rows in right_rows(source, sample_books(152, 25)):
            changed = spoiled_rows(source, book, rows)
            fault = rows_fault(book, changed)
            if fault is not None:
                self.assertEqual(told(LineAsker, book, changed), raised("BadPaper", *fault))

    def test_all_plays(self):
        source = random.Random(153)
        rows_of_all = list(right_rows(source, sample_books(154, 50) + [chain_book(5), full_book(4)]))
        for book, rows in rows_of_all:
            for _ in range(6):
                asker = LineAsker(book, rows)
                at, held, count = len(rows) - 1, (), 0
                while not any(against(held, wish) for wish in book.wishes):
                    self.assertEqual((asker.held, asker.question), (held, rows[at][1]))
                    answer = source.randint(0, 1)
                    self.assertIsNone(asker.hear(answer))
                    named = rows[at][1]
                    where = rows[at][2 + answer]
                    before = held
                    held = denying(line_at(book, rows, where))
                    at = where[1] if where[0] == "line" else at
                    # It only holds answers that it held before or has just heard.
                    self.assertLessEqual(set(held), set(before) | {(named, answer)})
                    self.assertTrue(plain(asker.held))
                    count += 1
                self.assertEqual((asker.held, asker.question), (held, None))
                self.assertLessEqual(count, len(rows))

    def test_forty_names(self):
        book = chain_book(40)
        asker = LineAsker(book, chain_rows(book))
        for name in range(1, 40):
            self.assertEqual(asker.question, name)
            asker.hear(1)
            self.assertEqual(asker.held, ((name, 1),))
        asker.hear(1)
        self.assertEqual((asker.question, asker.held), (None, ((40, 1),)))


class Asking(unittest.TestCase):

    def test_an_ordinary_play(self):
        pairs = asking(LineAsker(BOOK, ROWS), KeepLiar(BOOK, 0))
        self.assertEqual(next(pairs), (1, 1))
        self.assertEqual(told(next, pairs), raised("NoLiar", 0))

    def test_the_steps_of_a_play(self):
        asker, liar = LineAsker(BOOK, ROWS), OtherLiar([1, 1])
        pairs = asking(asker, liar)
        self.assertEqual(liar.deeds, [])
        self.assertEqual(next(pairs), (1, 1))
        # The asker has heard the answer, and the next question is not asked yet.
        self.assertEqual((liar.deeds, asker.held, asker.question), ([("asked", 1)], ((1, 1),), 2))
        self.assertEqual(next(pairs), (2, 1))
        self.assertEqual((liar.deeds, asker.held, asker.question), ([("asked", 1), ("asked", 2)], ((2, 1),), None))
        self.assertEqual(list(pairs), [])
        self.assertEqual(liar.stand, ((1, 1), (2, 1)))

    def test_a_play_without_questions(self):
        liar = OtherLiar([], ((1, 0),))
        self.assertEqual(list(asking(LineAsker(Book(2, [()]), ()), liar)), [])
        self.assertEqual((liar.deeds, liar.stand), ([], ((1, 0),)))

    def test_what_the_liar_forgets(self):
        # The rows ask 1, then 2 with the answer to 1 kept, then 3 with that to 2 kept only.
        book = chain_book(3)
        rows = kept_lines(book, 1)
        for answers in ((1, 1, 1), (0, 1, 1), (1, 0, 0), (1, 1, 0), (0, 0, 0)):
            asker, liar = LineAsker(book, rows), OtherLiar(answers + (0, 0))
            held = ()
            for name, answer in asking(asker, liar):
                # What it knew before the question, less what it forgot, is what the asker held.
                self.assertEqual(liar.stand, tuple(sorted(held + ((name, answer),))))
                held = asker.held

    def test_a_liar_that_holds_answers_already(self):
        # The asker holds nothing at first, so the liar forgets all of them.
        liar = KeepLiar(full_book(3), 1)
        liar.hold(1, 1)
        liar.hold(3, 0)
        book = full_book(3)
        asker = LineAsker(book, kept_lines(book, 2))
        pairs = []
        try:
            for pair in asking(asker, liar):
                pairs.append(pair)
            self.fail("the liar was caught")
        except NoLiar as error:
            self.assertEqual(error.bound, 1)
        self.assertEqual(liar.asked, 2 + len(pairs))
        self.assertEqual([answer for _, answer in pairs], [0] * len(pairs))

    def test_answers_that_both_hold(self):
        # The asker heard another answer to the name 1 than the liar holds; the liar keeps its own.
        asker = LineAsker(BOOK, ROWS)
        asker.hear(1)
        liar = OtherLiar([0], ((1, 0),))
        self.assertEqual(list(asking(asker, liar)), [(2, 0)])
        self.assertEqual((liar.deeds, liar.stand), ([("asked", 2)], ((1, 0), (2, 0))))
        asker = LineAsker(BOOK, ROWS)
        asker.hear(1)
        liar = OtherLiar([0], ((2, 1), (3, 0)))
        self.assertEqual(list(asking(asker, liar)), [(2, 0)])
        self.assertEqual((sorted(liar.deeds[:-1]), liar.deeds[-1]), ([("forget", 2), ("forget", 3)], ("asked", 2)))

    def test_an_asker_that_has_heard_answers(self):
        asker = LineAsker(BOOK, ROWS)
        asker.hear(1)
        liar = KeepLiar(BOOK, 0)
        self.assertEqual(list(asking(asker, liar)), [(2, 0)])
        self.assertEqual((asker.held, asker.question), (((1, 1), (2, 0)), None))
        self.assertEqual((liar.stand, liar.asked), (((2, 0),), 1))
        self.assertEqual(list(asking(asker, liar)), [])
        self.assertEqual((liar.stand, liar.asked), (((2, 0),), 1))

    def test_equal_books_end_with_no_liar(self):
        source = random.Random(155)
        books = sample_books(156, 40) + [chain_book(4), chain_book(5), full_book(4)]
        for book, rows in right_rows(source, books):
            for bound in range(least_kept(book)):
                asker, liar = LineAsker(book, rows), KeepLiar(Book(book.names, book.wishes), bound)
                pairs = []
                try:
                    for name, answer in asking(asker, liar):
                        pairs.append((name, answer))
                        self.assertLessEqual(len(pairs), len(rows))
                        self.assertEqual(liar.broken, ())
                    self.fail("the liar was caught")
                except NoLiar as error:
                    self.assertEqual(error.bound, bound)
                self.assertEqual(liar.asked, len(pairs))
                self.assertGreater(width_of(rows), bound)
                self.assertGreater(len(liar.stand), bound)

    def test_other_books_of_the_same_number_of_names(self):
        source = random.Random(157)
        ended = 0
        books = [book for book in sample_books(158, 60) if book.names == 3]
        for book, rows in right_rows(source, books, 1):
            for other in books:
                bound = source.randint(0, 2)
                measure = least_kept(other)
                if measure is not None and measure <= bound:
                    continue
                asker, liar = LineAsker(book, rows), KeepLiar(other, bound)
                try:
                    for name, answer in asking(asker, liar):
                        self.assertIn((name, answer), liar.stand)
                    self.assertIsNone(asker.question)
                    self.assertFalse(broken(other, asker.held))
                    self.assertTrue(broken(book, asker.held))
                    ended += 1
                except NoLiar as error:
                    self.assertEqual(error.bound, bound)
        self.assertGreater(ended, 20)

    def test_a_book_that_is_kept(self):
        # A liar for it answers by a filling, so the asker wins, but with no wish of the liar's book.
        liar = KeepLiar(Book(2, [((1, 1),), ((1, 0), (2, 1))]), 10)
        self.assertEqual(list(asking(LineAsker(BOOK, ROWS), liar)), [(1, 1), (2, 1)])
        self.assertEqual((liar.stand, liar.broken), (((1, 1), (2, 1)), ()))

    def test_errors_of_the_liar_come_through(self):
        class Strange(OtherLiar):
            def __call__(self, name):
                raise KeyError(name)

        class Stranger(OtherLiar):
            def forget(self, *names):
                raise KeyError(names)

        with self.assertRaises(KeyError):
            list(asking(LineAsker(BOOK, ROWS), Strange([])))
        with self.assertRaises(KeyError):
            list(asking(LineAsker(BOOK, ROWS), Stranger([0], ((2, 0),))))
        asker = LineAsker(BOOK, ROWS)
        with self.assertRaises(KeyError):
            list(asking(asker, Strange([])))
        self.assertEqual((asker.held, asker.question), ((), 1))


if __name__ == "__main__":
    unittest.main()
