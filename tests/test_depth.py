"""Points 16, 18, 24 to 27 and 30 and the interface of depth."""

import random
import unittest

from papersorliars.books import Book
from papersorliars.depth import (
    depth_either, depth_liar, depth_liar_fault, depth_tree, joined_depth_liar, least_depth,
)
from papersorliars.trees import tree_depth, tree_fault
from tests.helpers import (
    NO_STANDS, add, all_fillings, all_stands, broken, chain_book, free, full_book, kept, plain, raised, random_book,
    right_row, sample_books, spoiled_stands, told,
)
from tests.least import bounds_around, deeper, least_table, small_books

BOOK = Book(2, [((1, 1),), ((1, 0), (2, 1)), ((2, 0),)])


def fault(book, bound, stands):
    """The first fault by the words of points 24 and 25."""
    for at, stand in enumerate(stands):
        if not right_row(book.names, stand):
            return (stand, "stand")
        if at and not stand > stands[at - 1]:
            return (stand, "order")
        if len(stand) > bound:
            return (stand, "long")
        if broken(book, stand):
            return (stand, "broken")
    if () not in stands:
        return ((), "empty")
    for stand in stands:
        if len(stand) < bound:
            for name in free(book, stand):
                if add(stand, name, 0) not in stands and add(stand, name, 1) not in stands:
                    return (stand, "stuck")
    return None


def greatest(book, bound):
    """The greatest object for the bound: what is left if stands that are stuck are taken away again and again."""
    stands = [stand for stand in all_stands(book.names) if len(stand) <= bound and not broken(book, stand)]
    while True:
        left = []
        for stand in stands:
            stuck = len(stand) < bound and any(
                add(stand, name, 0) not in stands and add(stand, name, 1) not in stands for name in free(book, stand))
            if not stuck:
                left.append(stand)
        if left == stands:
            return tuple(stands) if () in stands else None
        stands = left


class Either(unittest.TestCase):

    def check(self, book, bound, table, exact=True):
        least = table[()]
        stands = depth_liar(book, bound)
        tree = depth_tree(book, bound)
        if least is not None and least <= bound:
            self.assertIsNone(stands)
            self.assertIsNone(tree_fault(book, tree))
            self.assertLessEqual(tree_depth(tree), bound)
            self.assertTrue(plain(tree))
            kind, paper = depth_either(book, bound)
            self.assertEqual((kind, tree_fault(book, paper)), ("paper", None))
            self.assertLessEqual(tree_depth(paper), bound)
        else:
            self.assertIsNone(tree)
            expected = [stand for stand in all_stands(book.names) if len(stand) <= bound and not broken(book, stand)
                        and (table[stand] is None or table[stand] > bound - len(stand))]
            self.assertEqual(stands, tuple(expected))
            if exact:
                self.assertEqual(stands, greatest(book, bound))
                self.assertIsNone(fault(book, bound, stands))
            self.assertIsNone(depth_liar_fault(book, bound, stands))
            self.assertEqual(depth_either(book, bound), ("liar", stands))
            self.assertTrue(plain(stands))

    def test_the_example_of_the_document(self):
        self.assertEqual(depth_liar(BOOK, 1), ((), ((1, 1),), ((2, 0),)))
        self.assertEqual(depth_liar(BOOK, 0), ((),))
        self.assertIsNone(depth_liar(BOOK, 2))
        self.assertEqual(least_depth(BOOK), 2)

    def test_books_without_names(self):
        kept_book, empty = Book(0, []), Book(0, [()])
        self.assertEqual((least_depth(kept_book), least_depth(empty)), (None, 0))
        for bound in (0, 1, 5, 10 ** 40):
            self.assertEqual(depth_either(kept_book, bound), ("liar", ((),)))
            self.assertEqual((depth_tree(kept_book, bound), depth_liar(kept_book, bound)), (None, ((),)))
            self.assertEqual(depth_either(empty, bound), ("paper", ("leaf", 0)))
            self.assertEqual((depth_tree(empty, bound), depth_liar(empty, bound)), (("leaf", 0), None))

    def test_the_wish_without_words(self):
        book = Book(3, [((1, 0),), (), ((2, 1), (3, 0))])
        self.assertEqual((least_depth(book), depth_either(book, 0)), (0, ("paper", ("leaf", 0))))

    def test_all_small_books(self):
        for book in small_books():
            table = least_table(book, 0, deeper)
            self.assertEqual(least_depth(book), table[()])
            self.assertEqual(table[()] is None, kept(book))
            for bound in bounds_around(table[()]):
                self.check(book, bound, table)

    def test_books_of_three_and_four_names(self):
        source = random.Random(31)
        books = sample_books(32, 30) + [random_book(source, 4, source.randint(5, 16)) for _ in range(12)]
        for book in books + [chain_book(4), full_book(4)]:
            table = least_table(book, 0, deeper)
            self.assertEqual(least_depth(book), table[()])
            for bound in bounds_around(table[()]):
                self.check(book, bound, table)

    def test_books_of_six_names(self):
        source = random.Random(33)
        great = [chain_book(6), full_book(6), Book(6, []), Book(6, full_book(6).wishes[:-1]),
                 random_book(source, 6, 128, 3), random_book(source, 6, 60, 2, 4), random_book(source, 5, 80, 2)]
        measures = [least_depth(book) for book in great]
        self.assertEqual(measures[:4], [3, 6, None, None])
        for book, measure in zip(great, measures):
            table = least_table(book, 0, deeper)
            self.assertEqual(measure, table[()])
            for bound in bounds_around(measure)[-5:]:
                self.check(book, bound, table, exact=False)

    def test_known_measures(self):
        for size in range(1, 7):
            self.assertEqual(least_depth(chain_book(size)), size.bit_length())
            self.assertEqual(least_depth(full_book(size)), size)
        self.assertEqual(least_depth(Book(5, [((2, 0),), ((2, 1),)])), 1)

    def test_the_same_again_and_after_another_book(self):
        other = Book(2, [((1, 1),), ((1, 0), (2, 0)), ((2, 1),)])
        again = Book(2, [[(2, 0)], [(2, 1), (1, 0)], [(1, 1)], [(2, 0)]])
        for bound in (0, 1, 2, 3):
            first = [depth_either(BOOK, bound), depth_liar(BOOK, bound), depth_tree(BOOK, bound), least_depth(BOOK)]
            depth_either(other, bound)
            least_depth(full_book(3))
            for book in (BOOK, again):
                found = [depth_either(book, bound), depth_liar(book, bound), depth_tree(book, bound), least_depth(book)]
                self.assertEqual(found, first)

    def test_too_many_names(self):
        for names in (7, 40):
            for book in (Book(names, []), Book(names, [()]), Book(names, [((7, 0),), ((7, 1),)])):
                self.assertEqual(told(least_depth, book), raised("TooLarge", names, 6))
                for bound in (0, 1, 10 ** 40):
                    for asked in (depth_tree, depth_liar, depth_either):
                        self.assertEqual(told(asked, book, bound), raised("TooLarge", names, 6))


class Fault(unittest.TestCase):

    def test_each_kind(self):
        right = ((), ((1, 1),), ((2, 0),))
        self.assertIsNone(depth_liar_fault(BOOK, 1, right))
        for stand in NO_STANDS:
            if stand != ((4, 0),):
                self.assertEqual(depth_liar_fault(BOOK, 1, (stand, *right)), (stand, "stand"))
                self.assertEqual(depth_liar_fault(BOOK, 1, (*right, stand)), (stand, "stand"))
        self.assertEqual(depth_liar_fault(BOOK, 1, ((), ((2, 0),), ((1, 1),))), (((1, 1),), "order"))
        self.assertEqual(depth_liar_fault(BOOK, 1, ((), ((1, 1),), ((1, 1),), ((2, 0),))), (((1, 1),), "order"))
        self.assertEqual(depth_liar_fault(BOOK, 1, (((1, 1),), ())), ((), "order"))
        self.assertEqual(depth_liar_fault(BOOK, 1, ((), ((1, 1), (2, 0)))), (((1, 1), (2, 0)), "long"))
        self.assertEqual(depth_liar_fault(BOOK, 0, right), (((1, 1),), "long"))
        self.assertEqual(depth_liar_fault(BOOK, 1, ((), ((1, 0),), ((2, 0),))), (((1, 0),), "broken"))
        self.assertEqual(depth_liar_fault(BOOK, 1, right[1:]), ((), "empty"))
        self.assertEqual(depth_liar_fault(BOOK, 1, ()), ((), "empty"))
        self.assertEqual(depth_liar_fault(BOOK, 1, right[:2]), ((), "stuck"))
        self.assertEqual(depth_liar_fault(BOOK, 1, ((), ((2, 0),))), ((), "stuck"))
        self.assertEqual(depth_liar_fault(BOOK, 2, right), (((1, 1),), "stuck"))
        self.assertEqual(depth_liar_fault(BOOK, 10 ** 40, right), (((1, 1),), "stuck"))

    def test_a_broken_stand_without_answers(self):
        self.assertEqual(depth_liar_fault(Book(1, [()]), 0, ((),)), ((), "broken"))
        self.assertEqual(depth_liar_fault(Book(1, [()]), 0, ()), ((), "empty"))

    def test_the_first_of_several_faults(self):
        wrong, long, lost = ((1, 0), (1, 1)), ((1, 1), (2, 0)), ((1, 0),)
        self.assertEqual(depth_liar_fault(BOOK, 1, ((), lost, wrong)), (lost, "broken"))
        self.assertEqual(depth_liar_fault(BOOK, 1, ((), long, lost)), (long, "long"))
        self.assertEqual(depth_liar_fault(BOOK, 2, ((), ((2, 0),), lost)), (lost, "order"))
        # A long stand in wrong order, and one that is long and broken.
        self.assertEqual(depth_liar_fault(BOOK, 1, (((2, 0),), long)), (long, "order"))
        self.assertEqual(depth_liar_fault(BOOK, 0, ((), lost)), (lost, "long"))
        self.assertEqual(depth_liar_fault(BOOK, 1, (((1, 1),), ((1, 1), (2, 1)))), (((1, 1), (2, 1)), "long"))
        self.assertEqual(depth_liar_fault(BOOK, 1, (((1, 1),), wrong)), (wrong, "stand"))
        # Kinds of the row as a whole come behind those of all stands, "stuck" at last.
        self.assertEqual(depth_liar_fault(BOOK, 2, (((1, 1),), ((2, 1),))), (((2, 1),), "broken"))
        self.assertEqual(depth_liar_fault(BOOK, 2, (((1, 1),), ((2, 0),))), ((), "empty"))
        self.assertEqual(depth_liar_fault(BOOK, 2, ((), ((2, 0),))), ((), "stuck"))

    def test_objects_with_places_changed(self):
        source = random.Random(34)
        kinds = set()
        for book in sample_books(35, 30) + [chain_book(4), full_book(4)]:
            least = least_table(book, 0, deeper)[()]
            for bound in range(4 if least is None else least):
                right = depth_liar(book, bound)
                for _ in range(25):
                    stands = spoiled_stands(source, book, right)
                    found = depth_liar_fault(book, bound, stands)
                    self.assertEqual(found, fault(book, bound, stands))
                    kinds.add(found and found[1])
        self.assertEqual(kinds, {None, "stand", "order", "long", "broken", "empty", "stuck"})

    def test_each_smaller_row_of_the_greatest_object(self):
        book = full_book(3)
        right = depth_liar(book, 2)
        for stand in right:
            stands = tuple(row for row in right if row != stand)
            self.assertEqual(depth_liar_fault(book, 2, stands), fault(book, 2, stands))

    def test_books_of_many_names(self):
        book = Book(40, [tuple((x, 1) for x in range(1, 41))])
        one = ((),) + tuple(((x, 0),) for x in range(1, 41))
        self.assertIsNone(depth_liar_fault(book, 1, one))
        self.assertIsNone(depth_liar_fault(book, 0, ((),)))
        self.assertEqual(depth_liar_fault(book, 1, one[:-1]), ((), "stuck"))
        self.assertEqual(depth_liar_fault(book, 2, one), (((1, 0),), "stuck"))
        self.assertEqual(depth_liar_fault(book, 1, (*one, ((41, 0),))), (((41, 0),), "stand"))
        two = tuple(two_answers(40))
        self.assertIsNone(depth_liar_fault(book, 2, two))
        self.assertIsNone(depth_liar_fault(book, 2, two[:-1]))
        less = tuple(stand for stand in two if stand != ((39, 1), (40, 1)))
        self.assertEqual(depth_liar_fault(book, 2, less), (((39, 1),), "stuck"))


def two_answers(names):
    """All stands with at most two answers whose values are equal."""
    found = [()]
    for x in range(1, names + 1):
        for v in (0, 1):
            found.append(((x, v),))
            found += [((x, v), (y, v)) for y in range(x + 1, names + 1)]
    return sorted(found)


class Joined(unittest.TestCase):

    def test_an_ordinary_pair(self):
        other = Book(1, [((1, 0),), ((1, 1),)])
        found = joined_depth_liar(BOOK, other, 0, ((),), ((),))
        self.assertEqual(found, ((),))
        other = Book(2, [((1, 0),)])
        others = ((), ((1, 0),), ((2, 0),))
        found = joined_depth_liar(BOOK, other, 1, ((), ((1, 1),), ((2, 0),)), others)
        self.assertEqual(found, ((), ((1, 1),), ((2, 0),), ((3, 0),), ((4, 0),)))

    def test_pairs_of_books(self):
        books = sample_books(36, 24)
        for bound in (0, 1, 2):
            with_liars = [(book, depth_liar(book, bound)) for book in books]
            with_liars = [(book, stands) for book, stands in with_liars if stands is not None][:14]
            for book, stands in with_liars:
                for other, others in with_liars:
                    found = joined_depth_liar(book, other, bound, stands, others)
                    expected = []
                    for stand in stands:
                        for rest in others:
                            if len(stand) + len(rest) <= bound:
                                expected.append(stand + tuple((x + book.names, v) for x, v in rest))
                    self.assertEqual(found, tuple(sorted(expected)))
                    self.assertIsNone(depth_liar_fault(book + other, bound, found))
                    self.assertTrue(plain(found))

    def test_no_names_on_one_side(self):
        none = Book(0, [])
        stands = depth_liar(BOOK, 1)
        self.assertEqual(joined_depth_liar(BOOK, none, 1, stands, ((),)), stands)
        self.assertEqual(joined_depth_liar(none, BOOK, 1, ((),), stands), stands)
        self.assertEqual(joined_depth_liar(none, none, 10 ** 40, ((),), ((),)), ((),))

    def test_books_of_more_than_six_names(self):
        book = Book(20, [])
        found = joined_depth_liar(book, book, 1, one_answer(20), one_answer(20))
        self.assertEqual(found, one_answer(40))

    def test_the_order_of_the_errors(self):
        right, bad, worse = ((),), (((1, 2),),), ()
        self.assertEqual(told(joined_depth_liar, Book(20, []), Book(21, []), 0, bad, bad), raised("BadNames", 41))
        many = Book(8, all_fillings(8)[:128])
        self.assertEqual(told(joined_depth_liar, many, many, 0, bad, bad), raised("TooMany", 256))
        self.assertEqual(told(joined_depth_liar, many, Book(1, [()]), 0, bad, bad), raised("TooMany", 129))
        told_first = raised("BadLiar", ((1, 2),), "stand")
        self.assertEqual(told(joined_depth_liar, BOOK, BOOK, 0, bad, worse), told_first)
        self.assertEqual(told(joined_depth_liar, BOOK, BOOK, 0, worse, bad), raised("BadLiar", (), "empty"))
        self.assertEqual(told(joined_depth_liar, BOOK, BOOK, 0, right, bad), told_first)
        self.assertEqual(told(joined_depth_liar, BOOK, Book(1, [()]), 0, right, right), raised("BadLiar", (), "broken"))
        self.assertEqual(told(joined_depth_liar, Book(1, [()]), BOOK, 0, right, right), raised("BadLiar", (), "broken"))
        stands = depth_liar(BOOK, 1)
        self.assertEqual(told(joined_depth_liar, BOOK, BOOK, 1, stands, right), raised("BadLiar", (), "stuck"))
        # The second object is one for the second book.
        one = Book(1, [])
        self.assertEqual(told(joined_depth_liar, one, BOOK, 1, one_answer(1), one_answer(2)),
                         raised("BadLiar", ((1, 0),), "broken"))


def one_answer(names):
    return ((),) + tuple(((x, 0),) for x in range(1, names + 1))


if __name__ == "__main__":
    unittest.main()
