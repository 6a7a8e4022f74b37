"""Point 15 and the interface of players."""

import unittest

from papersorliars.books import Book
from papersorliars.players import Liar
from tests.helpers import all_stands, plain, raised, sample_books, told


class Liars(unittest.TestCase):

    def test_a_new_liar(self):
        book = Book(3, [((1, 0),), ((2, 1), (3, 0))])
        liar = Liar(book)
        self.assertEqual((liar.book, liar.stand, liar.asked, liar.broken), (book, (), 0, ()))

    def test_held_answers(self):
        liar = Liar(Book(3, [((1, 0),), ((2, 1), (3, 0)), ((2, 1),)]))
        self.assertEqual(liar.hold(3, 1), 1)
        self.assertEqual((liar.stand, liar.asked, liar.broken), (((3, 1),), 1, ()))
        self.assertEqual(liar.hold(1, 0), 0)
        self.assertEqual((liar.stand, liar.asked, liar.broken), (((1, 0), (3, 1)), 2, ()))
        self.assertEqual(liar.hold(2, 0), 0)
        self.assertEqual((liar.stand, liar.asked, liar.broken), (((1, 0), (2, 0), (3, 1)), 3, (1, 2)))
        self.assertTrue(plain(liar.stand) and plain(liar.broken))

    def test_the_wish_without_words_is_broken_at_once(self):
        self.assertEqual(Liar(Book(0, [()])).broken, (0,))
        liar = Liar(Book(1, [(), ((1, 0),)]))
        self.assertEqual(liar.broken, (0,))
        liar.hold(1, 1)
        self.assertEqual(liar.broken, (0, 1))

    def test_check_free(self):
        liar = Liar(Book(3, [()]))
        for name in (1, 2, 3):
            self.assertIsNone(liar.check_free(name))
        for name in (0, 4, -1, 10 ** 40, -10 ** 40):
            self.assertEqual(told(liar.check_free, name), raised("BadName", name))
        liar.hold(2, 1)
        self.assertIsNone(liar.check_free(1))
        self.assertEqual(told(liar.check_free, 2), raised("BadName", 2))
        self.assertEqual((liar.stand, liar.asked), (((2, 1),), 1))

    def test_names_that_cannot_be_held_change_nothing(self):
        liar = Liar(Book(3, []))
        liar.hold(2, 0)
        for name in (0, 2, 4, -2, 41):
            for answer in (0, 1):
                self.assertEqual(told(liar.hold, name, answer), raised("BadName", name))
                self.assertEqual((liar.stand, liar.asked), (((2, 0),), 1))
        self.assertEqual(told(Liar(Book(0, [])).hold, 1, 0), raised("BadName", 1))

    def test_broken_at_each_stand(self):
        for book in sample_books(13, 20):
            for stand in all_stands(book.names):
                for row in (stand, stand[::-1]):
                    liar = Liar(book)
                    for count, (name, answer) in enumerate(row, 1):
                        self.assertEqual(liar.hold(name, answer), answer)
                        self.assertEqual(liar.asked, count)
                    self.assertEqual(liar.stand, stand)
                    self.assertEqual(liar.broken, book.breaks(stand))

    def test_forty_names(self):
        liar = Liar(Book(40, [[(x, 0) for x in range(1, 41)]]))
        for name in range(40, 0, -1):
            self.assertEqual(liar.broken, ())
            liar.hold(name, 1)
        self.assertEqual((liar.broken, liar.asked, len(liar.stand)), ((0,), 40, 40))

    def test_two_liars_do_not_share_what_they_hold(self):
        book = Book(2, [((1, 0),)])
        first, second = Liar(book), Liar(book)
        first.hold(1, 1)
        self.assertEqual((second.stand, second.asked, second.broken), ((), 0, ()))
        self.assertEqual(first.broken, (0,))


if __name__ == "__main__":
    unittest.main()
