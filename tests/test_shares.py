"""Points 32 to 34, 36 and 37 and the interface of shares."""

import random
import unittest
from fractions import Fraction

from papersorliars.books import Book
from papersorliars.leaves import share_liar
from papersorliars.shares import cheapest_play, least_pay, pay_of, share_fault
from tests.helpers import (
    NO_STANDS, add, all_stands, broken, chain_book, free, full_book, plain, raised, sample_books, told,
)
from tests.least import small_books

ONE = Book(1, [((1, 0),), ((1, 1),)])
ROWS = ((((), 1), (1, 3)),)
BOOK = Book(2, [((1, 1),), ((1, 0), (2, 1)), ((2, 0),)])
EMPTY = Book(0, [()])


def due(book):
    """The pairs of stand and name that a row of shares has, by point 32."""
    places = [(stand, x) for stand in all_stands(book.names) if not broken(book, stand) for x in free(book, stand)]
    return sorted(places)


def random_rows(source, book, most=4):
    return tuple((place, (source.randint(1, most), source.randint(1, most))) for place in due(book))


def plays(book, rows, stand=(), play=(), paid=Fraction(1)):
    """All plays with what they pay and whether they end, by points 33 and 34."""
    ends = broken(book, stand)
    found = [(play, paid, ends)]
    if not ends:
        for name in free(book, stand):
            both = dict(rows)[(stand, name)]
            for answer in (0, 1):
                pay = paid * Fraction(sum(both), both[answer])
                found += plays(book, rows, add(stand, name, answer), play + ((name, answer),), pay)
    return found


def pair(paid):
    return (paid.numerator, paid.denominator)


def fault(book, rows, bound=None):
    """The first fault by the words of point 36."""
    places = due(book)
    for at, (place, both) in enumerate(rows):
        if at >= len(places) or place != places[at]:
            return (at, "row")
        if min(both) < 1:
            return (at, "share")
    if len(rows) < len(places):
        return (len(rows), "row")
    if bound is not None:
        paid = [pay for _, pay, ends in plays(book, rows) if ends]
        if paid and min(paid) <= bound:
            return (len(rows), "pay")
    return None


def spoiled(source, book, rows):
    """The row with some entries changed, left out or added."""
    rows = list(rows)
    for _ in range(source.randint(1, 2)):
        deed = source.randint(0, 6)
        at = source.randint(0, len(rows))
        if deed == 0 or not rows:
            rows.insert(at, ((source.choice(all_stands(book.names)), source.randint(0, 4)), (1, 2)))
            continue
        at = at % len(rows)
        (stand, name), both = rows[at]
        if deed == 1:
            rows.pop(at)
        elif deed == 2:
            rows[at] = ((stand, name), (both[0], source.randint(-1, 1)))
        elif deed == 3:
            rows[at] = ((stand, name), (source.randint(-1, 1), both[1]))
        elif deed == 4:
            rows[at] = ((stand, name + source.choice((-1, 1))), both)
        elif deed == 5:
            rows[at] = ((source.choice(NO_STANDS), name), both)
        else:
            rows.insert(at, rows[at])
    return tuple(rows)


class Fault(unittest.TestCase):

    def test_right_rows(self):
        self.assertIsNone(share_fault(ONE, ROWS))
        self.assertIsNone(share_fault(EMPTY, ()))
        self.assertIsNone(share_fault(Book(0, []), ()))
        self.assertIsNone(share_fault(Book(3, [()]), ()))
        source = random.Random(61)
        for book in sample_books(62, 30):
            rows = random_rows(source, book, 10 ** 12)
            self.assertIsNone(share_fault(book, rows))

    def test_each_kind(self):
        two = (((), 1), (1, 3)), (((), 1), (1, 3))
        self.assertEqual(share_fault(ONE, two), (1, "row"))
        self.assertEqual(share_fault(ONE, ()), (0, "row"))
        self.assertEqual(share_fault(EMPTY, ROWS), (0, "row"))
        for name in (0, 2, -1, 10 ** 40):
            self.assertEqual(share_fault(ONE, ((((), name), (1, 3)),)), (0, "row"))
        for stand in (((1, 0),), ((1, 1),), *NO_STANDS):
            self.assertEqual(share_fault(ONE, (((stand, 1), (1, 3)),)), (0, "row"))
        for both in ((0, 3), (1, 0), (-1, 3), (1, -10 ** 40), (0, 0)):
            self.assertEqual(share_fault(ONE, ((((), 1), both),)), (0, "share"))
        self.assertIsNone(share_fault(ONE, ((((), 1), (1, 1)),)))

    def test_the_kind_pay(self):
        # The least pay is 4 to 3.
        self.assertIsNone(share_fault(ONE, ROWS, bound=None))
        self.assertIsNone(share_fault(ONE, ROWS, bound=0))
        self.assertIsNone(share_fault(ONE, ROWS, bound=1))
        for bound in (2, 3, 10 ** 40):
            self.assertEqual(share_fault(ONE, ROWS, bound=bound), (1, "pay"))
        # The least pay is the bound itself.
        rows = ((((), 1), (5, 5)),)
        self.assertIsNone(share_fault(ONE, rows, bound=1))
        self.assertEqual(share_fault(ONE, rows, bound=2), (1, "pay"))
        self.assertIsNone(share_fault(EMPTY, (), bound=0))
        self.assertEqual(share_fault(EMPTY, (), bound=1), (0, "pay"))
        self.assertIsNone(share_fault(Book(0, []), (), bound=10 ** 40))
        free_book = Book(2, [])
        rows = random_rows(random.Random(63), free_book)
        self.assertIsNone(share_fault(free_book, rows, bound=10 ** 40))
        one = Book(1, [((1, 0),)])
        self.assertIsNone(share_fault(one, ((((), 1), (3, 1)),), bound=3))
        self.assertEqual(share_fault(one, ((((), 1), (3, 1)),), bound=4), (1, "pay"))

    def test_the_first_of_several_faults(self):
        places = due(BOOK)
        rows = [(place, (1, 1)) for place in places]
        self.assertEqual(places, [((), 1), ((), 2), (((1, 1),), 2), (((2, 0),), 1)])
        bad = ((((1, 0),), 2), (1, 1))
        self.assertEqual(share_fault(BOOK, (rows[0], (places[1], (0, 1)), bad), bound=9), (1, "share"))
        self.assertEqual(share_fault(BOOK, (rows[0], bad, (places[1], (0, 1))), bound=9), (1, "row"))
        self.assertEqual(share_fault(BOOK, (rows[0], ((((1, 0),), 2), (0, 0)))), (1, "row"))
        self.assertEqual(share_fault(BOOK, (rows[0], (places[1], (0, 0)))), (1, "share"))
        self.assertEqual(share_fault(BOOK, tuple(rows[:3]), bound=100), (3, "row"))
        self.assertEqual(share_fault(BOOK, tuple(rows), bound=100), (4, "pay"))
        self.assertEqual(share_fault(BOOK, tuple(rows[1:])), (0, "row"))
        self.assertEqual(share_fault(BOOK, (rows[1], rows[0], *rows[2:])), (0, "row"))
        self.assertEqual(share_fault(BOOK, (*rows, rows[3])), (4, "row"))
        self.assertEqual(share_fault(BOOK, (*rows, (places[3], (0, 0)))), (4, "row"))

    def test_rows_with_places_changed(self):
        source = random.Random(64)
        kinds = set()
        for book in sample_books(65, 30):
            for _ in range(25):
                rows = spoiled(source, book, random_rows(source, book))
                for bound in (None, source.randint(0, 9)):
                    found = share_fault(book, rows, bound=bound)
                    self.assertEqual(found, fault(book, rows, bound))
                    kinds.add(found and found[1])
        for book in sample_books(66, 30):
            rows = random_rows(source, book)
            for bound in range(12):
                self.assertEqual(share_fault(book, rows, bound=bound), fault(book, rows, bound))
        self.assertEqual(kinds, {None, "row", "share", "pay"})

    def test_the_objects_of_liars(self):
        for book in (BOOK, chain_book(4), full_book(3), chain_book(6), full_book(6)):
            bound = len(book.wishes) - 1
            rows = share_liar(book, bound)
            self.assertIsNone(share_fault(book, rows))
            self.assertIsNone(share_fault(book, rows, bound=bound))
            self.assertEqual(share_fault(book, rows, bound=bound + 1), (len(rows), "pay"))


class Pays(unittest.TestCase):

    def test_the_example_of_the_document(self):
        self.assertEqual(least_pay(ONE, ROWS), (4, 3))
        self.assertEqual(cheapest_play(ONE, ROWS), ((1, 1),))
        self.assertEqual(pay_of(ONE, ROWS, ((1, 1),)), (4, 3))
        self.assertEqual(pay_of(ONE, ROWS, ((1, 0),)), (4, 1))

    def test_the_play_without_pairs(self):
        self.assertEqual(pay_of(ONE, ROWS, ()), (1, 1))
        self.assertEqual(pay_of(EMPTY, (), ()), (1, 1))
        self.assertEqual((least_pay(EMPTY, ()), cheapest_play(EMPTY, ())), ((1, 1), ()))
        self.assertEqual((least_pay(Book(4, [()]), ()), cheapest_play(Book(4, [()]), ())), ((1, 1), ()))

    def test_books_without_wishes(self):
        self.assertEqual((least_pay(Book(0, []), ()), cheapest_play(Book(0, []), ())), (None, None))
        book = Book(2, [])
        rows = random_rows(random.Random(67), book)
        self.assertEqual((least_pay(book, rows), cheapest_play(book, rows)), (None, None))
        both = dict(rows)[((), 2)]
        paid = Fraction(sum(both), both[1])
        self.assertEqual(pay_of(book, rows, ((2, 1),)), pair(paid))

    def test_kept_books_have_plays_that_end(self):
        book = Book(2, [((1, 1), (2, 1))])
        rows = tuple((place, (1, 2)) for place in due(book))
        self.assertEqual(least_pay(book, rows), (9, 1))
        self.assertEqual(cheapest_play(book, rows), ((1, 0), (2, 0)))

    def test_lowest_terms(self):
        rows = ((((), 1), (6, 2)),)
        self.assertEqual(pay_of(ONE, rows, ((1, 0),)), (4, 3))
        self.assertEqual(pay_of(ONE, rows, ((1, 1),)), (4, 1))
        self.assertEqual(least_pay(ONE, rows), (4, 3))
        rows = ((((), 1), (10 ** 200, 10 ** 200)),)
        self.assertEqual((least_pay(ONE, rows), pay_of(ONE, rows, ((1, 1),))), ((2, 1), (2, 1)))

    def test_the_first_of_several_cheapest_plays(self):
        self.assertEqual(cheapest_play(ONE, ((((), 1), (7, 7)),)), ((1, 0),))
        rows = tuple((place, (1, 1)) for place in due(BOOK))
        self.assertEqual((least_pay(BOOK, rows), cheapest_play(BOOK, rows)), ((2, 1), ((1, 0),)))
        book = full_book(3)
        rows = tuple((place, (2, 2)) for place in due(book))
        self.assertEqual(cheapest_play(book, rows), ((1, 0), (2, 0), (3, 0)))
        book = Book(3, [((3, 1),)])
        rows = tuple((place, (1, 1)) for place in due(book))
        self.assertEqual((least_pay(book, rows), cheapest_play(book, rows)), ((2, 1), ((3, 0),)))
        # A longer play may pay less, and it may come first where it pays the same.
        book = Book(2, [((2, 1),)])
        shares = {((), 1): (2, 1), ((), 2): (1, 1), (((1, 0),), 2): (3, 1)}
        rows = tuple((place, shares.get(place, (1, 1))) for place in due(book))
        self.assertEqual((least_pay(book, rows), cheapest_play(book, rows)), ((2, 1), ((1, 0), (2, 0))))
        rows = tuple((place, (1, 1) if place == ((), 2) else (3, 1)) for place in due(book))
        self.assertEqual((least_pay(book, rows), cheapest_play(book, rows)), ((16, 9), ((1, 0), (2, 0))))

    def check(self, book, rows):
        found = plays(book, rows)
        ended = [(paid, play) for play, paid, ends in found if ends]
        if ended:
            self.assertEqual(least_pay(book, rows), pair(min(ended)[0]))
            self.assertEqual(cheapest_play(book, rows), min(ended)[1])
            self.assertTrue(plain(least_pay(book, rows)) and plain(cheapest_play(book, rows)))
        else:
            self.assertIsNone(least_pay(book, rows))
            self.assertIsNone(cheapest_play(book, rows))
        for play, paid, _ in found[::max(len(found) // 40, 1)]:
            self.assertEqual(pay_of(book, rows, play), pair(paid))

    def test_all_plays_of_small_books(self):
        source = random.Random(68)
        for book in list(small_books())[::2]:
            for most in (1, 2, 6):
                self.check(book, random_rows(source, book, most))

    def test_all_plays_of_books_of_three_names(self):
        source = random.Random(69)
        for book in sample_books(70, 45)[10:]:
            for most in (1, 2, 5, 10 ** 30):
                self.check(book, random_rows(source, book, most))

    def test_books_of_six_names(self):
        for book, bound in ((chain_book(6), 6), (full_book(6), 63), (full_book(6), 5)):
            rows = share_liar(book, bound)
            play = cheapest_play(book, rows)
            self.assertEqual(pay_of(book, rows, play), least_pay(book, rows))
            self.assertTrue(broken(book, tuple(sorted(play))))
            self.assertFalse(broken(book, tuple(sorted(play[:-1]))))
        rows = share_liar(full_book(6), 63)
        self.assertEqual(least_pay(full_book(6), rows), (64, 1))
        self.assertEqual(cheapest_play(full_book(6), rows), tuple((x, 0) for x in range(1, 7)))

    def test_the_same_again_and_after_another_book(self):
        rows = tuple((place, (1, 2)) for place in due(BOOK))
        first = (least_pay(BOOK, rows), cheapest_play(BOOK, rows), pay_of(BOOK, rows, ((1, 0),)))
        least_pay(ONE, ROWS)
        cheapest_play(ONE, ROWS)
        again = Book(2, [[(2, 0)], [(2, 1), (1, 0)], [(1, 1)]])
        for book in (BOOK, again):
            found = (least_pay(book, rows), cheapest_play(book, rows), pay_of(book, rows, ((1, 0),)))
            self.assertEqual(found, first)


class Errors(unittest.TestCase):

    def test_rows_with_a_fault(self):
        for rows, at, kind in (((), 0, "row"), (ROWS * 2, 1, "row"), (((((), 1), (0, 1)),), 0, "share")):
            error = raised("BadLiar", at, kind)
            self.assertEqual(told(least_pay, ONE, rows), error)
            self.assertEqual(told(cheapest_play, ONE, rows), error)
            self.assertEqual(told(pay_of, ONE, rows, ((1, 1),)), error)
            self.assertEqual(told(pay_of, ONE, rows, ()), error)

    def test_names_of_plays(self):
        rows = tuple((place, (1, 1)) for place in due(full_book(2)))
        for name in (0, 3, -1, 10 ** 40):
            self.assertEqual(told(pay_of, full_book(2), rows, ((name, 0),)), raised("BadName", name))
            self.assertEqual(told(pay_of, full_book(2), rows, ((2, 0), (name, 0))), raised("BadName", name))
        self.assertEqual(told(pay_of, full_book(2), rows, ((1, 0), (1, 0))), raised("BadName", 1))
        self.assertEqual(told(pay_of, full_book(2), rows, ((2, 0), (2, 1))), raised("BadName", 2))
        self.assertEqual(told(pay_of, full_book(2), rows, ((2, 0), (2, 1), (0, 1))), raised("BadName", 2))
        self.assertEqual(told(pay_of, full_book(2), rows, ((2, 0), (3, 1), (2, 1))), raised("BadName", 3))
        self.assertEqual(told(pay_of, Book(0, []), (), ((1, 0),)), raised("BadName", 1))

    def test_pairs_behind_a_broken_stand(self):
        rows = tuple((place, (1, 1)) for place in due(BOOK))
        self.assertEqual(pay_of(BOOK, rows, ((1, 0),)), (2, 1))
        self.assertEqual(told(pay_of, BOOK, rows, ((1, 0), (2, 0))), raised("BadName", 2))
        self.assertEqual(told(pay_of, BOOK, rows, ((2, 1), (1, 1))), raised("BadName", 1))
        self.assertEqual(told(pay_of, BOOK, rows, ((2, 1), (2, 1))), raised("BadName", 2))
        self.assertEqual(pay_of(BOOK, rows, ((2, 0), (1, 1))), (4, 1))
        self.assertEqual(told(pay_of, Book(2, [()]), (), ((1, 0),)), raised("BadName", 1))

    def test_bad_names_go_ahead_of_bad_rows(self):
        self.assertEqual(told(pay_of, ONE, (), ((2, 1),)), raised("BadName", 2))
        self.assertEqual(told(pay_of, ONE, ROWS * 2, ((1, 1), (1, 0))), raised("BadName", 1))
        self.assertEqual(told(pay_of, BOOK, (), ((1, 0), (2, 0))), raised("BadName", 2))

    def test_too_many_names(self):
        for names in (7, 40):
            for book in (Book(names, []), Book(names, [()])):
                error = raised("TooLarge", names, 6)
                for rows in ((), ROWS):
                    self.assertEqual(told(share_fault, book, rows), error)
                    self.assertEqual(told(share_fault, book, rows, bound=3), error)
                    self.assertEqual(told(least_pay, book, rows), error)
                    self.assertEqual(told(cheapest_play, book, rows), error)
                    for play in ((), ((1, 0),), ((0, 0),), ((1, 0), (1, 0))):
                        self.assertEqual(told(pay_of, book, rows, play), error)


if __name__ == "__main__":
    unittest.main()
