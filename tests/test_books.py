"""Points 4 to 8 and the interface of books, but for their texts."""

import copy
import itertools
import random
import unittest

from papersorliars.books import Book
from tests.helpers import (
    NO_STANDS, against, all_fillings, all_stands, full_book, plain, raised, random_book, random_wish, right_row,
    sample_books, told,
)


def different(many, names=8):
    """This many different wishes, each with a word for each name."""
    return all_fillings(names)[:many]


class Making(unittest.TestCase):

    def test_the_wishes_stand_in_ascending_order_each_once(self):
        book = Book(3, [((3, 1), (1, 0)), ((2, 0),), (), ((1, 0), (3, 1)), [(2, 0)], [(3, 0), (2, 1), (1, 1)]])
        self.assertEqual(book.names, 3)
        self.assertEqual(book.wishes, ((), ((1, 0), (3, 1)), ((1, 1), (2, 1), (3, 0)), ((2, 0),)))
        self.assertTrue(plain(book.wishes))

    def test_every_order_of_wishes_and_words_gives_the_same_book(self):
        wishes = [((1, 0), (2, 1), (3, 0)), ((2, 1),), ((1, 1), (3, 1))]
        for order in itertools.permutations(wishes):
            for words in itertools.permutations(order[0]):
                book = Book(3, (list(words), *order[1:]))
                self.assertEqual(book.wishes, tuple(sorted(wishes)))

    def test_the_order_is_that_of_tuples(self):
        wishes = [((1, 0),), ((1, 0), (2, 0)), ((1, 0), (2, 1)), ((1, 0), (10, 0)), ((1, 1),), ((2, 0), (3, 0)),
                  ((10, 1),)]
        self.assertEqual(Book(10, wishes[::-1]).wishes, tuple(wishes))

    def test_class_values(self):
        self.assertEqual((Book.MOST_NAMES, Book.MOST_WISHES), (40, 128))
        self.assertEqual((Book(1, []).MOST_NAMES, Book(1, []).MOST_WISHES), (40, 128))

    def test_no_names_and_forty_names(self):
        self.assertEqual((Book(0, []).names, Book(0, []).wishes), (0, ()))
        self.assertEqual(Book(0, [()]).wishes, ((),))
        self.assertEqual(Book(0, ([], ())).wishes, ((),))
        self.assertEqual(Book(40, [[(40, 1)]]).wishes, (((40, 1),),))
        wide = tuple((x, x % 2) for x in range(1, 41))
        self.assertEqual(Book(40, [wide[::-1]]).wishes, (wide,))

    def test_other_numbers_of_names(self):
        for names in (-1, 41, -10 ** 40, 10 ** 40, 1000):
            self.assertEqual(told(Book, names, []), raised("BadNames", names))

    def test_rows_that_are_no_wishes(self):
        for row in NO_STANDS:
            # Rows that are only in another order are wishes.
            if not right_row(3, sorted(row)):
                self.assertEqual(told(Book, 3, [row]), raised("BadWish", 0), row)
        for row in [((1, 0), (1, 0)), ((1, 0), (2, 1), (1, 1)), ((0, 1),), ((4, 0), (1, 0)), [(1, 2)], [(-3, 0)]]:
            self.assertEqual(told(Book, 3, [(), row, ()]), raised("BadWish", 1), row)
        self.assertEqual(told(Book, 0, [(), (), ((1, 0),)]), raised("BadWish", 2))
        self.assertEqual(told(Book, 40, [((41, 1),)]), raised("BadWish", 0))

    def test_the_first_of_several_rows_that_are_no_wishes(self):
        good, bad, worse = ((1, 1),), ((3, 0),), ((1, 0), (1, 0))
        self.assertEqual(told(Book, 2, [good, good, bad, good, worse]), raised("BadWish", 2))
        self.assertEqual(told(Book, 2, [good, worse, bad]), raised("BadWish", 1))
        # The index is that among the rows passed, not that in ascending order.
        self.assertEqual(told(Book, 2, [((2, 1),), ((2, 0),), ((1, 0), (1, 1)), ()]), raised("BadWish", 2))

    def test_128_and_129_different_wishes(self):
        self.assertEqual(Book(8, different(128)).wishes, tuple(different(128)))
        self.assertEqual(told(Book, 8, different(129)), raised("TooMany", 129))
        self.assertEqual(told(Book, 8, different(256)), raised("TooMany", 256))
        twice = different(128) + [wish[::-1] for wish in different(128)]
        self.assertEqual(Book(8, twice).wishes, tuple(different(128)))
        self.assertEqual(told(Book, 8, twice + different(130)), raised("TooMany", 130))

    def test_the_order_of_the_errors(self):
        bad = [((1, 0), (1, 0))]
        self.assertEqual(told(Book, 41, different(129) + bad), raised("BadNames", 41))
        self.assertEqual(told(Book, -1, bad), raised("BadNames", -1))
        self.assertEqual(told(Book, 8, different(129) + bad), raised("BadWish", 129))
        self.assertEqual(told(Book, 7, different(129)), raised("BadWish", 0))

    def test_what_is_passed_does_not_change(self):
        wishes = [[(2, 1), (1, 0)], ((2, 0),), [(2, 1), (1, 0)], []]
        before = copy.deepcopy(wishes)
        book = Book(2, wishes)
        self.assertEqual(wishes, before)
        wishes[0].clear()
        wishes.clear()
        self.assertEqual(book.wishes, ((), ((1, 0), (2, 1)), ((2, 0),)))


class Reading(unittest.TestCase):
    """What a book tells of itself."""

    def test_breaks(self):
        for book in sample_books(1, 25):
            for stand in all_stands(book.names):
                expected = tuple(k for k, wish in enumerate(book.wishes) if against(stand, wish))
                self.assertEqual(book.breaks(stand), expected)

    def test_every_stand_breaks_the_wish_without_words(self):
        book = Book(2, [(), ((1, 0),), ((2, 0),)])
        self.assertEqual(book.breaks(()), (0,))
        self.assertEqual(book.breaks(((1, 1), (2, 1))), (0, 1, 2))
        self.assertEqual(Book(0, [()]).breaks(()), (0,))
        self.assertEqual(Book(0, []).breaks(()), ())

    def test_breaks_over_forty_names(self):
        wide = tuple((x, 1) for x in range(1, 41))
        book = Book(40, [wide, ((40, 0),)])
        self.assertEqual(book.breaks(tuple((x, 0) for x in range(1, 41))), (0,))
        self.assertEqual(book.breaks(tuple((x, 0) for x in range(1, 40))), ())
        self.assertEqual(book.breaks(((40, 1),)), (1,))

    def test_breaks_wants_a_stand(self):
        for stand in NO_STANDS:
            self.assertEqual(told(Book(3, [()]).breaks, stand), raised("BadStand", stand))
        self.assertEqual(told(Book(0, [()]).breaks, ((1, 0),)), raised("BadStand", ((1, 0),)))

    def test_widest(self):
        self.assertEqual(Book(5, []).widest, 0)
        self.assertEqual(Book(5, [()]).widest, 0)
        self.assertEqual(Book(5, [(), ((5, 1),)]).widest, 1)
        self.assertEqual(Book(5, [((1, 0), (2, 0), (3, 0)), ((4, 1), (5, 1)), ((5, 0),)]).widest, 3)
        self.assertEqual(Book(40, [[(x, 0) for x in range(1, 41)]]).widest, 40)

    def test_iteration(self):
        book = Book(2, [((2, 1),), (), ((1, 0), (2, 0))])
        self.assertEqual(list(book), [(), ((1, 0), (2, 0)), ((2, 1),)])
        self.assertEqual([wish for wish in book], list(book.wishes))
        self.assertEqual(list(Book(3, [])), [])

    def test_in(self):
        book = Book(3, [((1, 0), (2, 1), (3, 0)), ((2, 1),)])
        for words in itertools.permutations(((1, 0), (2, 1), (3, 0))):
            self.assertIs(words in book, True)
            self.assertIs(list(words) in book, True)
        self.assertIs([(2, 1)] in book, True)
        for row in [(), ((2, 0),), ((1, 0), (2, 1)), ((1, 0), (2, 1), (3, 1)), [(3, 0), (2, 1)]]:
            self.assertIs(row in book, False)
        self.assertIs(() in Book(3, [()]), True)
        self.assertIs([] in Book(0, [()]), True)

    def test_a_row_that_is_no_wish_is_not_in_the_book(self):
        book = Book(3, [((1, 0), (2, 1)), ((2, 1),), ()])
        for row in [((2, 1), (2, 1)), [(1, 0), (2, 1), (2, 1)], ((2, 1), (2, 0)), ((4, 0),), ((0, 0),), ((2, 2),)]:
            self.assertIs(row in book, False)
        self.assertIs(((1, 1), (1, 1)) in Book(3, [((1, 1),)]), False)

    def test_equality(self):
        book = Book(2, [((1, 0), (2, 1)), ((2, 0),)])
        self.assertTrue(book == Book(2, [[(2, 0)], [(2, 1), (1, 0)], [(2, 0)]]))
        self.assertFalse(book != Book(2, [[(2, 0)], [(2, 1), (1, 0)]]))
        self.assertFalse(book == Book(3, [((1, 0), (2, 1)), ((2, 0),)]))
        self.assertTrue(book != Book(3, [((1, 0), (2, 1)), ((2, 0),)]))
        self.assertFalse(book == Book(2, [((1, 0), (2, 1))]))
        self.assertFalse(book == Book(2, [((1, 0), (2, 1)), ((2, 1),)]))
        self.assertFalse(Book(0, []) == Book(0, [()]))
        self.assertFalse(Book(1, []) == Book(0, []))


class Operators(unittest.TestCase):

    def test_the_wishes_of_both(self):
        first = Book(2, [((1, 0),), ((1, 1), (2, 1))])
        second = Book(2, [((2, 0),), ((1, 0),)])
        self.assertEqual((first | second), Book(2, [((1, 0),), ((1, 1), (2, 1)), ((2, 0),)]))
        self.assertEqual((first | second), (second | first))
        self.assertEqual((first | Book(2, [])), first)
        self.assertEqual((Book(2, [()]) | first).wishes, ((), ((1, 0),), ((1, 1), (2, 1))))
        self.assertEqual((Book(0, [()]) | Book(0, [])), Book(0, [()]))

    def test_side_by_side(self):
        first = Book(2, [((1, 0),), ((1, 1), (2, 1))])
        second = Book(1, [((1, 0),), ((1, 1),)])
        self.assertEqual((first + second), Book(3, [((1, 0),), ((1, 1), (2, 1)), ((3, 0),), ((3, 1),)]))
        self.assertEqual((second + first), Book(3, [((1, 0),), ((1, 1),), ((2, 0),), ((2, 1), (3, 1))]))
        self.assertEqual((first + Book(3, [])), Book(5, first.wishes))
        self.assertEqual((Book(3, []) + second), Book(4, [((4, 0),), ((4, 1),)]))

    def test_crossed(self):
        first = Book(2, [((1, 0),), ((1, 1), (2, 1))])
        second = Book(1, [((1, 0),), ((1, 1),)])
        wishes = [((1, 0), (3, 0)), ((1, 0), (3, 1)), ((1, 1), (2, 1), (3, 0)), ((1, 1), (2, 1), (3, 1))]
        self.assertEqual((first * second), Book(3, wishes))
        self.assertEqual((first * Book(3, [])), Book(5, []))
        self.assertEqual((Book(3, []) * second), Book(4, []))

    def test_with_the_wish_without_words(self):
        book = Book(2, [((1, 0),), ((1, 1), (2, 1))])
        empty = Book(1, [()])
        self.assertEqual((book + empty), Book(3, [(), ((1, 0),), ((1, 1), (2, 1))]))
        self.assertEqual((empty + empty), Book(2, [()]))
        self.assertEqual((book * empty), Book(3, book.wishes))
        self.assertEqual((empty * book), Book(3, [((2, 0),), ((2, 1), (3, 1))]))
        self.assertEqual((empty * empty), Book(2, [()]))

    def test_with_no_names_on_one_side(self):
        book = Book(2, [((1, 0),), ((1, 1), (2, 1))])
        none = Book(0, [])
        empty = Book(0, [()])
        self.assertEqual((book + none), book)
        self.assertEqual((none + book), book)
        self.assertEqual((book * none), Book(2, []))
        self.assertEqual((none * book), Book(2, []))
        self.assertEqual((book * empty), book)
        self.assertEqual((empty * book), book)
        self.assertEqual((book + empty), Book(2, [(), *book.wishes]))
        self.assertEqual((empty + empty), empty)

    def test_by_chance(self):
        source = random.Random(8)
        for _ in range(60):
            first = random_book(source, source.randint(0, 4), source.randint(0, 6), 0)
            second = random_book(source, source.randint(0, 4), source.randint(0, 6), 0)
            names = first.names + second.names
            moved = [tuple((x + first.names, v) for x, v in wish) for wish in second.wishes]
            self.assertEqual((first + second), Book(names, [*first.wishes, *moved]))
            self.assertEqual((first * second), Book(names, [a + b for a in first.wishes for b in moved]))
            third = random_book(source, first.names, source.randint(0, 6), 0)
            self.assertEqual((first | third), Book(first.names, [*first.wishes, *third.wishes]))
            for book in (first + second, first * second, first | third):
                self.assertTrue(plain(book.wishes))
                self.assertEqual(list(book.wishes), sorted(set(book.wishes)))

    def test_other_numbers_of_names(self):
        self.assertEqual(told(lambda: Book(2, []) | Book(3, [])), raised("BadNames", 3))
        self.assertEqual(told(lambda: Book(3, []) | Book(2, [])), raised("BadNames", 2))
        self.assertEqual(told(lambda: Book(1, [()]) | Book(0, [()])), raised("BadNames", 0))
        many = Book(8, different(128))
        self.assertEqual(told(lambda: many | Book(9, different(128, 9))), raised("BadNames", 9))

    def test_too_many_names(self):
        for sign in (lambda a, b: a + b, lambda a, b: a * b):
            self.assertEqual(sign(Book(20, []), Book(20, [])).names, 40)
            self.assertEqual(sign(Book(40, []), Book(0, [])).names, 40)
            self.assertEqual(told(sign, Book(20, []), Book(21, [])), raised("BadNames", 41))
            self.assertEqual(told(sign, Book(40, [()]), Book(40, [()])), raised("BadNames", 80))
            self.assertEqual(told(sign, Book(1, [((1, 0),)]), Book(40, [((40, 1),)])), raised("BadNames", 41))

    def test_too_many_wishes(self):
        many = Book(8, different(128))
        self.assertEqual(len((many | Book(8, different(128)[3:])).wishes), 128)
        self.assertEqual(told(lambda: many | Book(8, [()])), raised("TooMany", 129))
        self.assertEqual(told(lambda: many | Book(8, all_fillings(8)[100:200])), raised("TooMany", 200))
        self.assertEqual(told(lambda: many + Book(1, [()])), raised("TooMany", 129))
        self.assertEqual(told(lambda: many + many), raised("TooMany", 256))
        self.assertEqual(len((Book(8, [(), *different(127)]) + Book(1, [()])).wishes), 128)
        self.assertEqual(told(lambda: many * Book(1, [(), ((1, 0),)])), raised("TooMany", 256))
        self.assertEqual(len((Book(4, all_fillings(4)) * Book(3, all_fillings(3))).wishes), 128)
        self.assertEqual(told(lambda: full_book(4) * Book(4, all_fillings(4)[:9])), raised("TooMany", 144))
        self.assertEqual(told(lambda: many * many), raised("TooMany", 16384))

    def test_too_many_names_go_ahead_of_too_many_wishes(self):
        many = Book(30, [((x, v),) for x in range(1, 31) for v in (0, 1)])
        self.assertEqual(told(lambda: many + many), raised("BadNames", 60))
        self.assertEqual(told(lambda: many * many), raised("BadNames", 60))

    def test_the_books_do_not_change(self):
        source = random.Random(9)
        first = Book(3, [random_wish(source, 3) for _ in range(4)])
        second = Book(3, [random_wish(source, 3) for _ in range(4)])
        before = [(book.names, book.wishes) for book in (first, second)]
        for book in (first | second, first + second, first * second):
            self.assertIsNot(book, first)
        self.assertEqual([(book.names, book.wishes) for book in (first, second)], before)


if __name__ == "__main__":
    unittest.main()
