"""Points 16, 18, 31 and 35 and the interface of leaves."""

import random
import unittest

from papersorliars.books import Book
from papersorliars.leaves import leaf_either, leaf_tree, least_leaves, share_liar
from papersorliars.shares import least_pay, share_fault
from papersorliars.trees import tree_fault, tree_leaves
from tests.helpers import (
    add, all_stands, broken, chain_book, free, full_book, kept, plain, raised, random_book, sample_books, told,
)
from tests.least import bounds_around, least_table, more, small_books

BOOK = Book(2, [((1, 1),), ((1, 0), (2, 1)), ((2, 0),)])


def shares(book, bound, table):
    """The row of shares by the words of point 35."""
    rows = []
    for stand in all_stands(book.names):
        if not broken(book, stand):
            for name in free(book, stand):
                sides = [table[add(stand, name, v)] for v in (0, 1)]
                rows.append(((stand, name), tuple(bound + 1 if n is None else min(n, bound + 1) for n in sides)))
    return tuple(rows)


class Either(unittest.TestCase):

    def check(self, book, bound, table):
        least = table[()]
        found = share_liar(book, bound)
        tree = leaf_tree(book, bound)
        if least is not None and least <= bound:
            self.assertIsNone(found)
            self.assertIsNone(tree_fault(book, tree))
            self.assertLessEqual(tree_leaves(tree), bound)
            self.assertTrue(plain(tree))
            kind, paper = leaf_either(book, bound)
            self.assertEqual((kind, tree_fault(book, paper)), ("paper", None))
            self.assertLessEqual(tree_leaves(paper), bound)
        else:
            self.assertIsNone(tree)
            self.assertEqual(found, shares(book, bound, table))
            self.assertIsNone(share_fault(book, found, bound=bound))
            self.assertEqual(leaf_either(book, bound), ("liar", found))
            self.assertTrue(plain(found))

    def test_an_ordinary_book(self):
        self.assertEqual(least_leaves(BOOK), 3)
        self.assertEqual(share_liar(BOOK, 2), (
            (((), 1), (1, 2)), (((), 2), (2, 1)), ((((1, 1),), 2), (1, 1)), ((((2, 0),), 1), (1, 1))))
        self.assertEqual(share_liar(BOOK, 1), (
            (((), 1), (1, 2)), (((), 2), (2, 1)), ((((1, 1),), 2), (1, 1)), ((((2, 0),), 1), (1, 1))))
        self.assertEqual(share_liar(BOOK, 0), (
            (((), 1), (1, 1)), (((), 2), (1, 1)), ((((1, 1),), 2), (1, 1)), ((((2, 0),), 1), (1, 1))))
        self.assertIsNone(share_liar(BOOK, 3))

    def test_a_kept_book(self):
        book = Book(1, [((1, 0),)])
        self.assertIsNone(least_leaves(book))
        self.assertEqual(share_liar(book, 0), ((((), 1), (1, 1)),))
        self.assertEqual(share_liar(book, 4), ((((), 1), (5, 1)),))
        self.assertEqual(share_liar(book, 10 ** 40), ((((), 1), (10 ** 40 + 1, 1)),))

    def test_books_without_names(self):
        kept_book, empty = Book(0, []), Book(0, [()])
        self.assertEqual((least_leaves(kept_book), least_leaves(empty)), (None, 1))
        for bound in (0, 1, 5, 10 ** 40):
            self.assertEqual(leaf_either(kept_book, bound), ("liar", ()))
            self.assertEqual((leaf_tree(kept_book, bound), share_liar(kept_book, bound)), (None, ()))
        self.assertEqual(leaf_either(empty, 0), ("liar", ()))
        self.assertEqual((leaf_tree(empty, 0), share_liar(empty, 0)), (None, ()))
        for bound in (1, 5, 10 ** 40):
            self.assertEqual(leaf_either(empty, bound), ("paper", ("leaf", 0)))
            self.assertEqual((leaf_tree(empty, bound), share_liar(empty, bound)), (("leaf", 0), None))

    def test_the_wish_without_words(self):
        book = Book(3, [((1, 0),), (), ((2, 1), (3, 0))])
        self.assertEqual((least_leaves(book), leaf_either(book, 1)), (1, ("paper", ("leaf", 0))))
        self.assertEqual(leaf_either(book, 0), ("liar", ()))

    def test_all_small_books(self):
        for book in small_books():
            table = least_table(book, 1, more)
            self.assertEqual(least_leaves(book), table[()])
            self.assertEqual(table[()] is None, kept(book))
            for bound in bounds_around(table[()]):
                self.check(book, bound, table)

    def test_books_of_three_and_four_names(self):
        source = random.Random(51)
        books = sample_books(52, 30) + [random_book(source, 4, source.randint(5, 16)) for _ in range(12)]
        for book in books + [chain_book(4), full_book(4)]:
            table = least_table(book, 1, more)
            self.assertEqual(least_leaves(book), table[()])
            for bound in range(0, 20, 3) if table[()] is None else range(table[()] + 2):
                self.check(book, bound, table)

    def test_books_of_six_names(self):
        source = random.Random(53)
        great = [chain_book(6), full_book(6), Book(6, []), Book(6, full_book(6).wishes[:-1]),
                 random_book(source, 6, 128, 3), random_book(source, 6, 60, 2, 4), random_book(source, 5, 80, 2)]
        measures = [least_leaves(book) for book in great]
        self.assertEqual(measures[:4], [7, 64, None, None])
        for book, measure in zip(great, measures):
            table = least_table(book, 1, more)
            self.assertEqual(measure, table[()])
            for bound in bounds_around(measure)[-5:]:
                self.check(book, bound, table)

    def test_known_measures(self):
        for size in range(1, 7):
            self.assertEqual(least_leaves(chain_book(size)), size + 1)
            self.assertEqual(least_leaves(full_book(size)), 2 ** size)

    def test_each_play_that_ends_pays_more_than_the_bound(self):
        for book in sample_books(54, 30):
            for bound in range(6):
                found = share_liar(book, bound)
                if found is not None:
                    pay = least_pay(book, found)
                    self.assertTrue(pay is None or pay[0] > bound * pay[1])

    def test_the_same_again_and_after_another_book(self):
        other = Book(2, [((1, 1),), ((1, 0), (2, 0)), ((2, 1),)])
        again = Book(2, [[(2, 0)], [(2, 1), (1, 0)], [(1, 1)], [(2, 0)]])
        for bound in (0, 1, 2, 3):
            first = [leaf_either(BOOK, bound), share_liar(BOOK, bound), leaf_tree(BOOK, bound), least_leaves(BOOK)]
            leaf_either(other, bound)
            least_leaves(full_book(3))
            for book in (BOOK, again):
                found = [leaf_either(book, bound), share_liar(book, bound), leaf_tree(book, bound), least_leaves(book)]
                self.assertEqual(found, first)

    def test_too_many_names(self):
        for names in (7, 40):
            for book in (Book(names, []), Book(names, [()]), Book(names, [((7, 0),), ((7, 1),)])):
                self.assertEqual(told(least_leaves, book), raised("TooLarge", names, 6))
                for bound in (0, 1, 10 ** 40):
                    for asked in (leaf_tree, share_liar, leaf_either):
                        self.assertEqual(told(asked, book, bound), raised("TooLarge", names, 6))


if __name__ == "__main__":
    unittest.main()
