"""Points 16 to 23 and the interface of trees."""

import itertools
import random
import unittest

from papersorliars.books import Book
from papersorliars.changes import narrowed, renamed, turned
from papersorliars.trees import (
    crossed_tree, leaf_of, narrowed_tree, renamed_tree, tree_depth, tree_fault, tree_leaves, turned_tree, ways,
)
from tests.helpers import (
    NO_STANDS, add, against, all_fillings, all_stands, chain_book, full_book, leaf_ways, plain, raised, random_tree,
    sample_books, told, wrong_tree,
)

BOOK = Book(2, [((1, 1),), ((1, 0), (2, 1)), ((2, 0),)])
TREE = ("ask", 1, ("leaf", 1), ("ask", 2, ("leaf", 0), ("leaf", 2)))


def fault(book, tree, way=()):
    """The first fault by the words of points 21 and 22."""
    asked = [x for x, _ in way]
    if tree[0] == "leaf":
        if not 0 <= tree[1] < len(book.wishes):
            return (way, "wish")
        return None if against(way, book.wishes[tree[1]]) else (way, "unbroken")
    if not 1 <= tree[1] <= book.names:
        return (way, "name")
    if tree[1] in asked:
        return (way, "again")
    return fault(book, tree[2], add(way, tree[1], 0)) or fault(book, tree[3], add(way, tree[1], 1))


def depth(tree):
    return max(len(way) for way, _ in leaf_ways(tree))


def right_trees(seed, many, most_names=3):
    """Pairs of a book and a right tree of it."""
    source = random.Random(seed)
    found = []
    for book in sample_books(seed, many, most_names):
        for _ in range(3):
            tree = random_tree(source, book)
            if tree is not None and (book, tree) not in found:
                found.append((book, tree))
    return found


def wide_tree(leaves, names):
    """A tree with this many leaves that asks the names, each way in ascending order."""
    if leaves == 1:
        return ("leaf", 0)
    first = max(leaves // 5, leaves - 2 ** (len(names) - 1), 1)
    return ("ask", names[0], wide_tree(first, names[1:]), wide_tree(leaves - first, names[1:]))


def long_tree(names, leaf=("leaf", 0), side=1):
    """A tree that asks the names one below the other on its side."""
    tree = leaf
    for name in reversed(names):
        tree = ("ask", name, leaf, tree) if side else ("ask", name, tree, leaf)
    return tree


class Fault(unittest.TestCase):

    def test_right_trees(self):
        self.assertEqual(BOOK.wishes, (((1, 0), (2, 1)), ((1, 1),), ((2, 0),)))
        self.assertIsNone(tree_fault(BOOK, TREE))
        self.assertIsNone(tree_fault(BOOK, ("ask", 2, ("ask", 1, ("leaf", 1), ("leaf", 0)), ("leaf", 2))))
        self.assertIsNone(tree_fault(Book(0, [()]), ("leaf", 0)))
        self.assertIsNone(tree_fault(Book(2, [(), ((1, 0),)]), ("ask", 2, ("leaf", 0), ("leaf", 0))))

    def test_the_example_of_the_document(self):
        tree = ("ask", 1, ("leaf", 1), ("ask", 2, ("leaf", 0), ("leaf", 1)))
        self.assertEqual(tree_fault(BOOK, tree), (((1, 1), (2, 1)), "unbroken"))

    def test_names(self):
        for name in (0, -1, 3, 10 ** 40, -10 ** 40):
            self.assertEqual(tree_fault(BOOK, ("ask", name, ("leaf", 0), ("leaf", 0))), ((), "name"))
            tree = ("ask", 1, ("leaf", 1), ("ask", name, ("leaf", 0), ("leaf", 0)))
            self.assertEqual(tree_fault(BOOK, tree), (((1, 1),), "name"))
        self.assertEqual(tree_fault(Book(0, [()]), ("ask", 1, ("leaf", 0), ("leaf", 0))), ((), "name"))
        self.assertEqual(tree_fault(Book(40, [()]), ("ask", 41, ("leaf", 0), ("leaf", 0))), ((), "name"))
        self.assertIsNone(tree_fault(Book(40, [()]), ("ask", 40, ("leaf", 0), ("leaf", 0))))

    def test_names_asked_again(self):
        tree = ("ask", 1, ("leaf", 1), ("ask", 1, ("leaf", 0), ("leaf", 0)))
        self.assertEqual(tree_fault(BOOK, tree), (((1, 1),), "again"))
        tree = ("ask", 2, ("ask", 1, ("ask", 2, ("leaf", 9), ("leaf", 9)), ("leaf", 0)), ("leaf", 2))
        self.assertEqual(tree_fault(BOOK, tree), (((1, 0), (2, 0)), "again"))

    def test_a_name_may_stand_again_on_another_branch(self):
        full = full_book(2)
        indexes = {wish: ("leaf", k) for k, wish in enumerate(full.wishes)}
        sides = [("ask", 2, indexes[((1, 1 - v), (2, 1))], indexes[((1, 1 - v), (2, 0))]) for v in (0, 1)]
        self.assertIsNone(tree_fault(full, ("ask", 1, *sides)))

    def test_indexes(self):
        for index in (-1, 3, 10 ** 40, -10 ** 40):
            self.assertEqual(tree_fault(BOOK, ("leaf", index)), ((), "wish"))
            tree = ("ask", 1, ("leaf", 1), ("ask", 2, ("leaf", 0), ("leaf", index)))
            self.assertEqual(tree_fault(BOOK, tree), (((1, 1), (2, 1)), "wish"))
        self.assertEqual(tree_fault(Book(3, []), ("leaf", 0)), ((), "wish"))

    def test_unbroken_wishes(self):
        self.assertEqual(tree_fault(BOOK, ("leaf", 0)), ((), "unbroken"))
        self.assertEqual(tree_fault(BOOK, ("ask", 1, ("leaf", 0), ("leaf", 0))), (((1, 0),), "unbroken"))
        self.assertEqual(tree_fault(BOOK, ("ask", 1, ("leaf", 1), ("leaf", 1))), (((1, 1),), "unbroken"))

    def test_the_first_of_several_faults(self):
        bad, wrong = ("leaf", 9), ("ask", 7, ("leaf", 9), ("leaf", 9))
        self.assertEqual(tree_fault(BOOK, ("ask", 3, bad, wrong)), ((), "name"))
        self.assertEqual(tree_fault(BOOK, ("ask", 1, bad, wrong)), (((1, 0),), "wish"))
        self.assertEqual(tree_fault(BOOK, ("ask", 1, wrong, bad)), (((1, 0),), "name"))
        self.assertEqual(tree_fault(BOOK, ("ask", 1, ("leaf", 1), wrong)), (((1, 1),), "name"))
        tree = ("ask", 2, ("ask", 1, ("leaf", 1), ("leaf", 1)), ("ask", 2, bad, bad))
        self.assertEqual(tree_fault(BOOK, tree), (((1, 1), (2, 0)), "unbroken"))
        tree = ("ask", 1, ("ask", 2, ("leaf", 1), ("ask", 1, bad, bad)), ("ask", 1, bad, bad))
        self.assertEqual(tree_fault(BOOK, tree), (((1, 0), (2, 1)), "again"))

    def test_trees_by_chance(self):
        source = random.Random(21)
        kinds = set()
        for book in sample_books(22, 40):
            for _ in range(60):
                tree = wrong_tree(source, book.names, len(book.wishes), 4)
                if source.random() < 0.5:
                    tree = spoiled(source, random_tree(source, book) or tree, book)
                found = tree_fault(book, tree)
                self.assertEqual(found, fault(book, tree))
                kinds.add(found and found[1])
        self.assertEqual(kinds, {None, "name", "again", "wish", "unbroken"})

    def test_right_trees_of_books(self):
        for book, tree in right_trees(23, 30):
            self.assertIsNone(tree_fault(book, tree))
            self.assertIsNone(tree_fault(book, tree))

    def test_many_leaves(self):
        tree = wide_tree(4000, list(range(1, 41)))
        book = Book(40, [(), ((40, 1),)])
        self.assertEqual(len(leaf_ways(tree)), 4000)
        self.assertIsNone(tree_fault(book, tree))
        self.assertEqual(tree_fault(Book(40, [((40, 1),)]), tree), (leaf_ways(tree)[0][0], "unbroken"))

    def test_deep_trees(self):
        self.assertIsNone(tree_fault(Book(40, [()]), long_tree(range(1, 41))))
        self.assertIsNone(tree_fault(Book(40, [()]), long_tree(range(40, 0, -1), side=0)))
        way = tuple((x, 1) for x in range(1, 41))
        self.assertEqual(tree_fault(Book(40, [()]), long_tree([*range(1, 41), 7, *range(50, 100)])), (way, "again"))
        self.assertEqual(tree_fault(Book(40, [()]), long_tree(range(1, 100))), (way, "name"))


def spoiled(source, tree, book):
    """The tree with one place changed."""
    if tree[0] == "leaf":
        return ("leaf", source.randint(-1, len(book.wishes)))
    side = source.randint(0, 3)
    if side == 0:
        return ("ask", source.randint(0, book.names + 1), *tree[2:])
    if side == 1:
        return ("ask", tree[1], tree[3], tree[2])
    sides = list(tree[2:])
    sides[side - 2] = spoiled(source, sides[side - 2], book)
    return ("ask", tree[1], *sides)


class Measures(unittest.TestCase):

    def test_ordinary_trees(self):
        self.assertEqual((tree_depth(("leaf", 7)), tree_leaves(("leaf", 7))), (0, 1))
        self.assertEqual((tree_depth(TREE), tree_leaves(TREE)), (2, 3))
        tree = ("ask", 1, ("ask", 2, ("ask", 3, TREE, ("leaf", 0)), ("leaf", 0)), ("leaf", 0))
        self.assertEqual((tree_depth(tree), tree_leaves(tree)), (5, 6))
        tree = ("ask", 1, ("leaf", 0), ("ask", 2, ("leaf", 0), ("ask", 3, ("leaf", 0), TREE)))
        self.assertEqual((tree_depth(tree), tree_leaves(tree)), (5, 6))

    def test_nothing_is_checked(self):
        tree = ("ask", -5, ("ask", -5, ("leaf", -1), ("leaf", 10 ** 30)), ("leaf", 0))
        self.assertEqual((tree_depth(tree), tree_leaves(tree)), (2, 3))

    def test_trees_by_chance(self):
        source = random.Random(24)
        for _ in range(100):
            tree = wrong_tree(source, 30, 4, 7)
            names = itertools.count(1)
            tree = fresh(tree, names)
            self.assertEqual(tree_depth(tree), depth(tree))
            self.assertEqual(tree_leaves(tree), len(leaf_ways(tree)))
            self.assertEqual(list(ways(tree)), leaf_ways(tree))

    def test_great_trees(self):
        tree = wide_tree(4000, list(range(1, 41)))
        self.assertEqual((tree_depth(tree), tree_leaves(tree)), (depth(tree), 4000))
        tree = long_tree(range(1, 100))
        self.assertEqual((tree_depth(tree), tree_leaves(tree)), (99, 100))
        tree = long_tree(range(99, 0, -1), side=0)
        self.assertEqual((tree_depth(tree), tree_leaves(tree)), (99, 100))


def fresh(tree, names):
    """The tree with another name at each node."""
    if tree[0] == "leaf":
        return tree
    return ("ask", next(names), fresh(tree[2], names), fresh(tree[3], names))


class Ways(unittest.TestCase):

    def test_ordinary_trees(self):
        self.assertEqual(list(ways(("leaf", 5))), [((), 5)])
        self.assertEqual(list(ways(TREE)), [(((1, 0),), 1), (((1, 1), (2, 0)), 0), (((1, 1), (2, 1)), 2)])
        tree = ("ask", 2, ("ask", 1, ("leaf", 4), ("leaf", 3)), ("leaf", 9))
        self.assertEqual(list(ways(tree)), [(((1, 0), (2, 0)), 4), (((1, 1), (2, 0)), 3), (((2, 1),), 9)])
        self.assertTrue(plain(tuple(ways(tree))))

    def test_names_and_indexes_are_not_checked(self):
        tree = ("ask", 90, ("leaf", -4), ("ask", -3, ("leaf", 10 ** 50), ("leaf", 0)))
        self.assertEqual(list(ways(tree)), [(((90, 0),), -4), (((-3, 0), (90, 1)), 10 ** 50), (((-3, 1), (90, 1)), 0)])

    def test_great_trees(self):
        for tree in (wide_tree(4000, list(range(40, 0, -1))), long_tree(range(1, 100)), long_tree(range(99, 0, -1))):
            self.assertEqual(list(ways(tree)), leaf_ways(tree))

    def test_the_ways_of_a_right_tree_are_met_by_each_filling_once(self):
        for book, tree in right_trees(25, 30):
            for filling in all_fillings(book.names):
                met = [index for way, index in ways(tree) if set(way) <= set(filling)]
                self.assertEqual(met, [leaf_of(tree, filling)])


class LeafOf(unittest.TestCase):

    def test_ordinary_stands(self):
        for stand, index in ((((1, 0),), 1), (((1, 0), (2, 0)), 1), (((1, 1), (2, 0)), 0), (((1, 1), (2, 1)), 2)):
            self.assertEqual(leaf_of(TREE, stand), index)
        self.assertEqual(leaf_of(("leaf", 77), ()), 77)
        self.assertEqual(leaf_of(("leaf", -7), ((1, 1),)), -7)

    def test_questions_that_are_not_answered(self):
        self.assertEqual(told(leaf_of, TREE, ()), raised("BadName", 1))
        self.assertEqual(told(leaf_of, TREE, ((2, 0),)), raised("BadName", 1))
        self.assertEqual(told(leaf_of, TREE, ((1, 1),)), raised("BadName", 2))
        self.assertEqual(told(leaf_of, TREE, ((1, 1), (3, 1))), raised("BadName", 2))
        tree = ("ask", -4, ("ask", 90, ("leaf", 0), ("leaf", 1)), ("leaf", 2))
        self.assertEqual(told(leaf_of, tree, ((-4, 0),)), raised("BadName", 90))
        self.assertEqual(leaf_of(tree, ((-4, 0), (90, 1))), 1)

    def test_a_name_asked_again_is_answered_as_before(self):
        tree = ("ask", 1, ("ask", 1, ("leaf", 5), ("leaf", 6)), ("ask", 1, ("leaf", 7), ("leaf", 8)))
        self.assertEqual((leaf_of(tree, ((1, 0),)), leaf_of(tree, ((1, 1),))), (5, 8))

    def test_deep_trees(self):
        tree = long_tree(range(1, 100), ("leaf", 3))
        self.assertEqual(leaf_of(tree, tuple((x, 1) for x in range(1, 100))), 3)
        self.assertEqual(told(leaf_of, tree, tuple((x, 1) for x in range(1, 99))), raised("BadName", 99))


class NarrowedTree(unittest.TestCase):

    def test_an_ordinary_tree(self):
        # Narrowed, the wishes are () and ((2, 0),).
        self.assertEqual(narrowed_tree(BOOK, TREE, ((1, 0),)), ("leaf", 0))
        # Here they are ((2, 0),) and ((2, 1),).
        self.assertEqual(narrowed_tree(BOOK, TREE, ((1, 1),)), ("ask", 2, ("leaf", 1), ("leaf", 0)))
        # And here () and ((1, 1),).
        self.assertEqual(narrowed_tree(BOOK, TREE, ((2, 1),)), ("ask", 1, ("leaf", 1), ("leaf", 0)))
        self.assertEqual(narrowed_tree(BOOK, TREE, ()), TREE)
        self.assertEqual(narrowed_tree(BOOK, TREE, ((1, 1), (2, 1))), ("leaf", 0))

    def test_each_stand_of_each_tree(self):
        for book, tree in right_trees(26, 30):
            for stand in all_stands(book.names):
                found = narrowed_tree(book, tree, stand)
                self.assertEqual(found, by_hand(book, tree, stand))
                self.assertIsNone(fault(narrowed(book, stand), found))
                self.assertTrue(plain(found))

    def test_the_order_of_the_errors(self):
        for stand in NO_STANDS:
            self.assertEqual(told(narrowed_tree, chain_book(3), ("leaf", 9), stand), raised("BadStand", stand))
        self.assertEqual(told(narrowed_tree, BOOK, ("leaf", 9), ((1, 0),)), raised("BadPaper", (), "wish"))
        self.assertEqual(told(narrowed_tree, BOOK, ("leaf", 1), ((1, 0),)), raised("BadPaper", (), "unbroken"))
        tree = ("ask", 1, ("leaf", 1), ("ask", 1, ("leaf", 0), ("leaf", 0)))
        self.assertEqual(told(narrowed_tree, BOOK, tree, ((1, 0),)), raised("BadPaper", ((1, 1),), "again"))

    def test_great_trees(self):
        book = Book(40, [(), ((40, 1),)])
        tree = wide_tree(4000, list(range(1, 41)))
        self.assertEqual(narrowed_tree(book, tree, ()), tree)
        stand = ((2, 0), (5, 1), (40, 0))
        self.assertEqual(narrowed_tree(book, tree, stand), by_hand(book, tree, stand))


def by_hand(book, tree, stand):
    """The narrowed tree by the words of point 23."""
    if tree[0] == "leaf":
        left = tuple(word for word in book.wishes[tree[1]] if word[0] not in [x for x, _ in stand])
        return ("leaf", narrowed(book, stand).wishes.index(left))
    for answer in (0, 1):
        if (tree[1], answer) in stand:
            return by_hand(book, tree[2 + answer], stand)
    return ("ask", tree[1], by_hand(book, tree[2], stand), by_hand(book, tree[3], stand))


class RenamedTree(unittest.TestCase):

    def test_an_ordinary_tree(self):
        # Renamed, the wishes are ((1, 0),), ((1, 1), (2, 0)) and ((2, 1),).
        tree = ("ask", 2, ("leaf", 2), ("ask", 1, ("leaf", 1), ("leaf", 0)))
        self.assertEqual(renamed_tree(BOOK, TREE, (2, 1)), tree)
        self.assertEqual(renamed_tree(BOOK, TREE, (1, 2)), TREE)
        self.assertEqual(renamed_tree(Book(0, [()]), ("leaf", 0), ()), ("leaf", 0))

    def test_each_order_of_each_tree(self):
        for book, tree in right_trees(27, 25):
            for order in itertools.permutations(range(1, book.names + 1)):
                found = renamed_tree(book, tree, order)
                self.assertIsNone(fault(renamed(book, order), found))
                self.assertTrue(plain(found))
                expected = []
                for way, index in leaf_ways(tree):
                    wish = tuple(sorted((order[x - 1], v) for x, v in book.wishes[index]))
                    way = tuple(sorted((order[x - 1], v) for x, v in way))
                    expected.append((way, renamed(book, order).wishes.index(wish)))
                self.assertEqual(leaf_ways(found), expected)
                self.assertEqual(shape(found), shape(tree))

    def test_the_order_of_the_errors(self):
        for order in ((), (1,), (1, 2, 3), (2, 2), (0, 1), (1, 3)):
            self.assertEqual(told(renamed_tree, BOOK, ("leaf", 9), order), raised("BadOrder", order))
            self.assertEqual(told(renamed_tree, BOOK, TREE, order), raised("BadOrder", order))
        self.assertEqual(told(renamed_tree, BOOK, ("leaf", 9), (2, 1)), raised("BadPaper", (), "wish"))
        self.assertEqual(told(renamed_tree, BOOK, ("leaf", 2), (2, 1)), raised("BadPaper", (), "unbroken"))


def shape(tree):
    return () if tree[0] == "leaf" else (shape(tree[2]), shape(tree[3]))


class TurnedTree(unittest.TestCase):

    def test_an_ordinary_tree(self):
        # Turned at 1, the wishes are ((1, 0),), ((1, 1), (2, 1)) and ((2, 0),).
        self.assertEqual(turned_tree(BOOK, TREE, (1,)), ("ask", 1, ("ask", 2, ("leaf", 1), ("leaf", 2)), ("leaf", 0)))
        # Turned at 2, the wishes are ((1, 0), (2, 0)), ((1, 1),) and ((2, 1),).
        self.assertEqual(turned_tree(BOOK, TREE, (2,)), ("ask", 1, ("leaf", 1), ("ask", 2, ("leaf", 2), ("leaf", 0))))
        self.assertEqual(turned_tree(BOOK, TREE, ()), TREE)

    def test_each_row_of_names_of_each_tree(self):
        for book, tree in right_trees(28, 25):
            for many in range(book.names + 1):
                for names in itertools.combinations(range(1, book.names + 1), many):
                    found = turned_tree(book, tree, names)
                    self.assertIsNone(fault(turned(book, names), found))
                    self.assertTrue(plain(found))
                    expected = []
                    for way, index in leaf_ways(tree):
                        wish, way = [tuple((x, v ^ (x in names)) for x, v in row) for row in (book.wishes[index], way)]
                        expected.append((way, turned(book, names).wishes.index(wish)))
                    self.assertEqual(sorted(leaf_ways(found)), sorted(expected))
                    self.assertEqual(turned_tree(turned(book, names), found, names), tree)

    def test_the_order_of_the_errors(self):
        for names in ((0,), (3,), (2, 1), (1, 1), (1, 2, 3)):
            self.assertEqual(told(turned_tree, BOOK, ("leaf", 9), names), raised("BadOrder", names))
            self.assertEqual(told(turned_tree, BOOK, TREE, names), raised("BadOrder", names))
        self.assertEqual(told(turned_tree, BOOK, ("leaf", 9), (1, 2)), raised("BadPaper", (), "wish"))
        tree = ("ask", 0, ("leaf", 0), ("leaf", 0))
        self.assertEqual(told(turned_tree, BOOK, tree, ()), raised("BadPaper", (), "name"))


class CrossedTree(unittest.TestCase):

    def test_an_ordinary_tree(self):
        other = Book(1, [((1, 0),), ((1, 1),)])
        second = ("ask", 1, ("leaf", 1), ("leaf", 0))
        crossed = BOOK * other
        self.assertEqual(crossed.wishes[0], ((1, 0), (2, 1), (3, 0)))
        expected = ("ask", 1, ("ask", 3, ("leaf", 3), ("leaf", 2)), (
            "ask", 2, ("ask", 3, ("leaf", 1), ("leaf", 0)), ("ask", 3, ("leaf", 5), ("leaf", 4))))
        self.assertEqual(crossed_tree(BOOK, other, TREE, second), expected)

    def test_no_names_and_the_wish_without_words(self):
        empty = Book(0, [()])
        self.assertEqual(crossed_tree(empty, empty, ("leaf", 0), ("leaf", 0)), ("leaf", 0))
        self.assertEqual(crossed_tree(BOOK, empty, TREE, ("leaf", 0)), TREE)
        self.assertEqual(crossed_tree(empty, BOOK, ("leaf", 0), TREE), TREE)
        book = Book(1, [()])
        self.assertEqual(crossed_tree(book, BOOK, ("leaf", 0), TREE), (
            "ask", 2, ("leaf", 1), ("ask", 3, ("leaf", 0), ("leaf", 2))))

    def test_trees_of_books(self):
        pairs = right_trees(29, 22)[:24]
        for book, tree in pairs:
            for other, second in pairs:
                if len(book.wishes) * len(other.wishes) > 128:
                    continue
                crossed = book * other
                found = crossed_tree(book, other, tree, second)
                self.assertIsNone(fault(crossed, found))
                self.assertTrue(plain(found))
                expected = []
                for way, index in leaf_ways(tree):
                    for rest, last in leaf_ways(second):
                        wish = book.wishes[index] + tuple((x + book.names, v) for x, v in other.wishes[last])
                        rest = tuple((x + book.names, v) for x, v in rest)
                        expected.append((way + rest, crossed.wishes.index(wish)))
                self.assertEqual(leaf_ways(found), expected)

    def test_the_order_of_the_errors(self):
        bad, worse = ("leaf", 9), ("leaf", -1)
        self.assertEqual(told(crossed_tree, Book(30, [()]), Book(11, [()]), bad, bad), raised("BadNames", 41))
        many, more = Book(4, all_fillings(4)), Book(4, all_fillings(4)[:9])
        self.assertEqual(told(crossed_tree, many, more, bad, bad), raised("TooMany", 144))
        empty = Book(1, [()])
        self.assertEqual(told(crossed_tree, BOOK, empty, worse, ("ask", 5, bad, bad)), raised("BadPaper", (), "wish"))
        self.assertEqual(told(crossed_tree, BOOK, empty, ("leaf", 0), bad), raised("BadPaper", (), "unbroken"))
        self.assertEqual(told(crossed_tree, BOOK, empty, TREE, bad), raised("BadPaper", (), "wish"))
        self.assertEqual(told(crossed_tree, BOOK, empty, TREE, ("ask", 2, ("leaf", 0), ("leaf", 0))),
                         raised("BadPaper", (), "name"))
        self.assertIsNotNone(crossed_tree(BOOK, empty, TREE, ("ask", 1, ("leaf", 0), ("leaf", 0))))

    def test_great_trees(self):
        tree, second = wide_tree(63, list(range(1, 21))), wide_tree(63, list(range(1, 21)))
        book = Book(20, [()])
        found = crossed_tree(book, book, tree, second)
        self.assertEqual(tree_leaves(found), 63 * 63)
        self.assertIsNone(fault(Book(40, [()]), found))


if __name__ == "__main__":
    unittest.main()
