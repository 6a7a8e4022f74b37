"""Points 123 to 127 and the interface of families."""

import unittest

from papersorliars.books import Book
from papersorliars.chances import chances_fault
from papersorliars.families import (
    chain, chain_alone, chain_keep, chain_lines, chain_tree, full, full_chances, full_lines, full_tree,
)
from papersorliars.kept import keep_liar, keep_liar_fault, least_kept
from papersorliars.lines import lines_fault
from papersorliars.trees import tree_fault
from tests import chancerows
from tests.helpers import (
    against, all_fillings, all_stands, chain_book, full_book, kept, leaf_ways, plain, raised, told,
)
from tests.least import deeper, more, number_of
from tests.rowpapers import rows_fault, width_of

GREAT = 10 ** 40
NO_CHAINS = (0, -1, 41, 42, 1000, -GREAT, GREAT)
NO_FULL = (-1, 7, 8, 40, -GREAT, GREAT)


def listed(call, *args):
    return list(call(*args))


class Chains(unittest.TestCase):

    def test_the_example(self):
        self.assertEqual(chain(3).text(), "names 3\nwish 1- 2+\nwish 1+\nwish 2- 3+\nwish 3-")

    def test_books(self):
        self.assertEqual(chain(1), Book(1, [((1, 0),), ((1, 1),)]))
        self.assertEqual(chain(2), Book(2, [((1, 1),), ((1, 0), (2, 1)), ((2, 0),)]))
        for size in range(1, 41):
            self.assertEqual(chain(size), chain_book(size))
            self.assertEqual((chain(size).names, len(chain(size).wishes)), (size, size + 1))
        for size in range(1, 7):
            self.assertFalse(kept(chain(size)))

    def test_trees(self):
        self.assertEqual(chain_tree(1), ("ask", 1, ("leaf", 1), ("leaf", 0)))
        for size in range(1, 41):
            tree = chain_tree(size)
            self.assertTrue(plain(tree))
            self.assertIsNone(tree_fault(chain(size), tree))
            self.assertEqual(number_of(tree, 1, more), size + 1)
            depth = number_of(tree, 0, deeper)
            self.assertTrue(2 ** depth >= size + 1 > 2 ** (depth - 1))
            self.assertEqual(sorted(index for _, index in leaf_ways(tree)), list(range(size + 1)))

    def test_lines(self):
        self.assertEqual(chain_lines(1), (((), 1, ("wish", 1), ("wish", 0)),))
        for size in range(1, 41):
            rows = chain_lines(size)
            self.assertTrue(plain(rows))
            self.assertIsNone(rows_fault(chain_book(size), rows))
            self.assertIsNone(lines_fault(chain(size), rows, most=min(size - 1, 1)))
            self.assertEqual((len(rows), width_of(rows)), (size, min(size - 1, 1)))

    def test_the_example_of_fillings(self):
        self.assertEqual(list(chain_alone(2)), [((1, 1), (2, 0)), ((1, 0), (2, 0)), ((1, 1), (2, 1))])

    def test_fillings_that_break_one_wish_alone(self):
        self.assertEqual(list(chain_alone(1)), [((1, 1),), ((1, 0),)])
        for size in range(1, 41):
            found = list(chain_alone(size))
            wishes = chain_book(size).wishes
            self.assertTrue(plain(tuple(found)))
            self.assertEqual(len(found), size + 1)
            for index, filling in enumerate(found):
                self.assertEqual([x for x, _ in filling], list(range(1, size + 1)))
                self.assertEqual([k for k, wish in enumerate(wishes) if against(filling, wish)], [index])
        for size in range(1, 8):
            book = chain_book(size)
            for index, filling in enumerate(chain_alone(size)):
                alone = [f for f in all_fillings(size)
                         if [k for k, wish in enumerate(book.wishes) if against(f, wish)] == [index]]
                self.assertEqual(alone, [filling])

    def test_objects(self):
        self.assertEqual(chain_keep(2), ((), ((1, 1),), ((2, 0),)))
        for size in range(2, 41):
            book = chain_book(size)
            found = chain_keep(size)
            self.assertTrue(plain(found))
            stands = [stand for stand in all_stands(size, 1) if not any(against(stand, w) for w in book.wishes)] \
                if size < 10 else [()] + [((x, v),) for x in range(1, size + 1) for v in (0, 1)
                                          if (x, v) not in ((1, 0), (size, 1))]
            self.assertEqual(found, tuple(stands))
            self.assertIsNone(keep_liar_fault(book, 0, found))
        for size in range(2, 7):
            self.assertEqual(chain_keep(size), keep_liar(chain(size), 0))
            self.assertEqual(least_kept(chain(size)), 1)
        self.assertEqual(least_kept(chain(1)), 0)

    def test_sizes(self):
        for size in NO_CHAINS:
            for call in (chain, chain_tree, chain_lines, chain_keep):
                self.assertEqual(told(call, size), raised("BadNames", size))
            self.assertEqual(told(listed, chain_alone, size), raised("BadNames", size))
        self.assertEqual(told(chain_keep, 1), raised("BadNames", 1))

    def test_the_error_is_raised_when_iterated(self):
        for size in NO_CHAINS:
            fillings = chain_alone(size)
            self.assertEqual(told(next, fillings), raised("BadNames", size))


class Full(unittest.TestCase):

    def test_books(self):
        self.assertEqual(full(0), Book(0, [()]))
        for size in range(7):
            self.assertEqual(full(size), full_book(size))
            self.assertEqual(len(full(size).wishes), 2 ** size)
            self.assertFalse(kept(full(size)))

    def test_trees(self):
        self.assertEqual(full_tree(0), ("leaf", 0))
        for size in range(7):
            tree = full_tree(size)
            self.assertTrue(plain(tree))
            self.assertIsNone(tree_fault(full(size), tree))
            self.assertEqual((number_of(tree, 0, deeper), number_of(tree, 1, more)), (size, 2 ** size))

    def test_lines(self):
        self.assertEqual(full_lines(0), ())
        for size in range(7):
            rows = full_lines(size)
            self.assertTrue(plain(rows))
            self.assertIsNone(rows_fault(full_book(size), rows))
            self.assertEqual(len(rows), 2 ** size - 1)
            self.assertLessEqual(width_of(rows), max(size - 1, 0))

    def test_chances(self):
        self.assertEqual(full_chances(1, 0), (((), 2),))
        for size in range(5):
            for bound in range(size):
                rows = full_chances(size, bound)
                self.assertTrue(plain(rows))
                self.assertEqual(rows, chancerows.counted(full(size), bound, all_fillings(size)))
                self.assertIsNone(chances_fault(full(size), bound, rows))
                self.assertIsNone(chancerows.chances_fault(full(size), bound, rows))
            for bound in (size, size + 1, GREAT):
                self.assertEqual(told(full_chances, size, bound), raised("NoLiar", bound))

    def test_sizes(self):
        for size in NO_FULL:
            for call in (full, full_tree, full_lines):
                self.assertEqual(told(call, size), raised("BadNames", size))
        for size in (*NO_FULL, 5, 6):
            for bound in (0, 3, size + 1, GREAT):
                self.assertEqual(told(full_chances, size, max(bound, 0)), raised("BadNames", size))


if __name__ == "__main__":
    unittest.main()
