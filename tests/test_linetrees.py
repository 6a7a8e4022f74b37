"""Points 38 to 42 and the interface of linetrees."""

import random
import unittest

from papersorliars.books import Book
from papersorliars.linetrees import line_tree_fault, line_tree_leaves, lines_tree, tree_lines
from papersorliars.texts import read_value, value_text
from papersorliars.trees import tree_leaves
from tests.helpers import (
    NO_STANDS, add, against, all_fillings, chain_book, full_book, leaf_ways, plain, raised, random_tree,
    right_row, sample_books, told,
)
from tests.linepapers import grown, ladder, leaves_of, line_of, papers

# Its wishes are ((1, 0), (2, 1)), ((1, 1),) and ((2, 0),).
BOOK = Book(2, [((1, 1),), ((1, 0), (2, 1)), ((2, 0),)])
PAPER = ("from", 1, (), ("wish", 1), ("from", 2, ((1, 0),), ("wish", 0), ("wish", 2)))


def fault(book, paper):
    """The first fault by the words of points 39 and 40."""
    found = node_fault(book, paper, ())
    if found is None and line_of(book, paper):
        found = ((), "end")
    return found


def node_fault(book, node, place):
    if node[0] == "wish":
        return None if node[1] in range(len(book.wishes)) else (place, "wish")
    _, name, line, left, right = node
    found = node_fault(book, left, place + (0,)) or node_fault(book, right, place + (1,))
    if found:
        return found
    if not right_row(book.names, line):
        return (place, "line")
    if name not in range(1, book.names + 1):
        return (place, "name")
    if name in [x for x, _ in line]:
        return (place, "asked")
    if set(line_of(book, left)) - set(line) - {(name, 1)}:
        return (place, "left")
    if set(line_of(book, right)) - set(line) - {(name, 0)}:
        return (place, "right")
    return None


def spoiled(source, book, node):
    """The line tree with one place changed."""
    if node[0] == "wish":
        return ("wish", source.choice((-1, len(book.wishes), source.randint(0, max(len(book.wishes) - 1, 0)))))
    deed = source.randint(0, 7)
    _, name, line, left, right = node
    if deed == 0:
        return ("from", source.randint(0, book.names + 1), line, left, right)
    if deed == 1:
        return ("from", name, source.choice(NO_STANDS), left, right)
    if deed == 2:
        return ("from", name, tuple(word for word in line if source.random() < 0.5), left, right)
    if deed == 3:
        return ("from", name, line, right, left)
    if deed == 4 and name not in [x for x, _ in line]:
        return ("from", name, add(line, name, source.randint(0, 1)), left, right)
    if source.random() < 0.5:
        return ("from", name, line, spoiled(source, book, left), right)
    return ("from", name, line, left, spoiled(source, book, right))


def lined(book, tree):
    """What a node of a tree becomes, by the words of point 41."""
    if tree[0] == "leaf":
        return ("wish", tree[1])
    name = tree[1]
    left, right = lined(book, tree[2]), lined(book, tree[3])
    if (name, 1) not in line_of(book, left):
        return left
    if (name, 0) not in line_of(book, right):
        return right
    words = set(line_of(book, left)) | set(line_of(book, right))
    return ("from", name, tuple(sorted(word for word in words if word[0] != name)), left, right)


def walked(node, stand=()):
    """What a node of a line tree becomes, by the words of point 42."""
    if node[0] == "wish":
        return ("leaf", node[1])
    for answer in (0, 1):
        if (node[1], answer) in stand:
            return walked(node[3 + answer], stand)
    return ("ask", node[1], *[walked(node[3 + answer], add(stand, node[1], answer)) for answer in (0, 1)])


def right_tree(book, tree):
    """Whether the tree is right, by point 21."""
    return all(against(way, book.wishes[index]) for way, index in leaf_ways(tree))


class Fault(unittest.TestCase):

    def test_right_line_trees(self):
        self.assertIsNone(line_tree_fault(BOOK, PAPER))
        self.assertIsNone(line_tree_fault(Book(0, [()]), ("wish", 0)))
        self.assertIsNone(line_tree_fault(Book(3, [(), ((1, 0),)]), ("wish", 0)))
        # A line may have words that its sides lack, and one side may lack the word of the name.
        paper = ("from", 2, (), ("from", 1, ((2, 1),), ("wish", 1), ("wish", 0)), ("wish", 2))
        self.assertIsNone(line_tree_fault(BOOK, paper))
        book = Book(3, [()])
        leaf = ("wish", 0)
        paper = ("from", 1, (), ("from", 2, ((1, 1),), leaf, leaf), ("from", 3, (), leaf, leaf))
        self.assertIsNone(line_tree_fault(book, paper))

    def test_a_name_may_be_used_again_below_itself(self):
        book = Book(2, [((1, 0),), ((1, 1),)])
        inner = ("from", 1, (), ("wish", 1), ("wish", 0))
        self.assertIsNone(line_tree_fault(book, inner))
        self.assertIsNone(line_tree_fault(book, ("from", 1, (), inner, ("wish", 0))))
        self.assertIsNone(line_tree_fault(book, ("from", 1, (), inner, inner)))
        self.assertIsNone(line_tree_fault(book, ("from", 1, (), ("from", 2, ((1, 1),), inner, inner), inner)))

    def test_wishes(self):
        for index in (-1, 3, 10 ** 40, -10 ** 40):
            self.assertEqual(line_tree_fault(BOOK, ("wish", index)), ((), "wish"))
            paper = ("from", 1, (), ("wish", 1), ("from", 2, ((1, 0),), ("wish", 0), ("wish", index)))
            self.assertEqual(line_tree_fault(BOOK, paper), ((1, 1), "wish"))
        self.assertEqual(line_tree_fault(Book(3, []), ("wish", 0)), ((), "wish"))

    def test_lines(self):
        leaf = ("wish", 0)
        for line in (*NO_STANDS, ((3, 0),), ((1, 0), (3, 1)), ((2, 0), (2, 1))):
            self.assertEqual(line_tree_fault(BOOK, ("from", 1, line, leaf, leaf)), ((), "line"))
        paper = ("from", 1, (), ("wish", 1), ("from", 2, ((1, 0), (1, 0)), ("wish", 0), ("wish", 2)))
        self.assertEqual(line_tree_fault(BOOK, paper), ((1,), "line"))

    def test_names(self):
        for name in (0, 3, -1, 10 ** 40):
            self.assertEqual(line_tree_fault(BOOK, ("from", name, (), ("wish", 1), ("wish", 2))), ((), "name"))
            paper = ("from", 1, (), ("wish", 1), ("from", name, ((1, 0),), ("wish", 0), ("wish", 2)))
            self.assertEqual(line_tree_fault(BOOK, paper), ((1,), "name"))

    def test_names_that_the_line_has(self):
        for value in (0, 1):
            paper = ("from", 1, ((1, value), (2, 0)), ("wish", 1), ("wish", 0))
            self.assertEqual(line_tree_fault(BOOK, paper), ((), "asked"))
            paper = ("from", 2, ((2, value),), ("wish", 1), ("wish", 0))
            self.assertEqual(line_tree_fault(BOOK, paper), ((), "asked"))

    def test_sides(self):
        # The left line may have (1, 1), the right one (1, 0), and both what the line has.
        self.assertEqual(line_tree_fault(BOOK, ("from", 1, (), ("wish", 0), ("wish", 2))), ((), "left"))
        self.assertEqual(line_tree_fault(BOOK, ("from", 1, (), ("wish", 1), ("wish", 2))), ((), "right"))
        self.assertEqual(line_tree_fault(BOOK, ("from", 1, (), ("wish", 1), ("wish", 1))), ((), "right"))
        self.assertEqual(line_tree_fault(BOOK, ("from", 1, (), ("wish", 1), ("wish", 0))), ((), "right"))
        self.assertEqual(line_tree_fault(BOOK, ("from", 1, ((2, 1),), ("wish", 1), ("wish", 0))), ((), "end"))
        self.assertEqual(line_tree_fault(BOOK, ("from", 1, ((2, 0),), ("wish", 1), ("wish", 0))), ((), "right"))
        self.assertEqual(line_tree_fault(BOOK, ("from", 2, (), ("wish", 2), ("wish", 0))), ((), "left"))
        one = Book(1, [((1, 0),), ((1, 1),)])
        self.assertEqual(line_tree_fault(one, ("from", 1, (), ("wish", 0), ("wish", 1))), ((), "left"))
        self.assertEqual(line_tree_fault(one, ("from", 1, (), ("wish", 1), ("wish", 1))), ((), "right"))
        self.assertIsNone(line_tree_fault(one, ("from", 1, (), ("wish", 1), ("wish", 0))))

    def test_the_end(self):
        self.assertEqual(line_tree_fault(BOOK, ("wish", 1)), ((), "end"))
        self.assertEqual(line_tree_fault(BOOK, ("from", 2, ((1, 0),), ("wish", 0), ("wish", 2))), ((), "end"))
        self.assertEqual(line_tree_fault(Book(1, [(), ((1, 0),)]), ("wish", 1)), ((), "end"))

    def test_the_first_of_several_faults(self):
        bad, worse = ("wish", 9), ("from", 0, (), ("wish", 1), ("wish", 2))
        self.assertEqual(line_tree_fault(BOOK, ("from", 9, ((9, 9),), worse, bad)), ((0,), "name"))
        self.assertEqual(line_tree_fault(BOOK, ("from", 9, ((9, 9),), bad, worse)), ((0,), "wish"))
        self.assertEqual(line_tree_fault(BOOK, ("from", 9, ((9, 9),), ("wish", 0), worse)), ((1,), "name"))
        self.assertEqual(line_tree_fault(BOOK, ("from", 9, ((9, 9),), ("wish", 0), ("wish", 0))), ((), "line"))
        self.assertEqual(line_tree_fault(BOOK, ("from", 9, ((1, 0),), ("wish", 2), ("wish", 2))), ((), "name"))
        self.assertEqual(line_tree_fault(BOOK, ("from", 1, ((1, 0),), ("wish", 2), ("wish", 2))), ((), "asked"))
        self.assertEqual(line_tree_fault(BOOK, ("from", 1, (), ("wish", 2), ("wish", 2))), ((), "left"))
        # Below a node, its left side goes first, and the sides before the node, down to the leaves.
        deep = ("from", 1, (), ("from", 2, (), ("wish", 2), bad), bad)
        self.assertEqual(line_tree_fault(BOOK, deep), ((0, 1), "wish"))
        deep = ("from", 1, (), ("from", 2, (), ("wish", 2), ("wish", 2)), bad)
        self.assertEqual(line_tree_fault(BOOK, deep), ((0,), "left"))
        deep = ("from", 0, (), ("wish", 1), ("from", 2, ((1, 0),), worse, bad))
        self.assertEqual(line_tree_fault(BOOK, deep), ((1, 0), "name"))

    def test_line_trees_by_chance(self):
        for book, paper in papers(71, 60, [chain_book(5), full_book(4)]):
            self.assertIsNone(fault(book, paper))
            self.assertIsNone(line_tree_fault(book, paper))

    def test_line_trees_with_places_changed(self):
        source = random.Random(72)
        kinds = set()
        for book, paper in papers(73, 70, [chain_book(4)]):
            for _ in range(12):
                changed = spoiled(source, book, paper)
                if source.random() < 0.5:
                    changed = spoiled(source, book, changed)
                found = line_tree_fault(book, changed)
                self.assertEqual(found, fault(book, changed))
                kinds.add(found and found[1])
        self.assertEqual(kinds, {None, "wish", "line", "name", "asked", "left", "right", "end"})

    def test_many_leaves_and_forty_names(self):
        book = Book(40, [()])
        paper = grown(4000, list(range(1, 41)))
        self.assertEqual(leaves_of(paper), 4000)
        self.assertIsNone(line_tree_fault(book, paper))
        self.assertEqual(line_tree_fault(Book(40, [((1, 0),)]), paper), fault(Book(40, [((1, 0),)]), paper))

    def test_nested_100_deep(self):
        book = Book(40, [()])
        for side in (0, 1):
            paper = ladder([1 + k % 40 for k in range(99)], side)
            self.assertEqual(read_value(value_text(paper)), paper)
            self.assertIsNone(line_tree_fault(book, paper))
            wrong = ladder([0] + [1 + k % 40 for k in range(98)], side)
            self.assertEqual(line_tree_fault(book, wrong), ((side,) * 98, "name"))


class Leaves(unittest.TestCase):

    def test_the_number_of_leaves(self):
        self.assertEqual(line_tree_leaves(("wish", 7)), 1)
        self.assertEqual(line_tree_leaves(PAPER), 3)
        for book, paper in papers(74, 40):
            self.assertEqual(line_tree_leaves(paper), leaves_of(paper))

    def test_nothing_is_checked(self):
        leaf = ("wish", -3)
        self.assertEqual(line_tree_leaves(("from", -5, ((9, 9), (0, 0)), ("from", 0, (), leaf, leaf), leaf)), 3)

    def test_great_line_trees(self):
        self.assertEqual(line_tree_leaves(grown(4000, list(range(1, 41)))), 4000)
        for side in (0, 1):
            self.assertEqual(line_tree_leaves(ladder([1] * 99, side)), 100)


class TreeLines(unittest.TestCase):

    def test_ordinary_trees(self):
        tree = ("ask", 1, ("leaf", 1), ("ask", 2, ("leaf", 0), ("leaf", 2)))
        self.assertEqual(tree_lines(BOOK, tree), PAPER)
        tree = ("ask", 2, ("ask", 1, ("leaf", 1), ("leaf", 0)), ("leaf", 2))
        self.assertEqual(tree_lines(BOOK, tree), (
            "from", 2, (), ("from", 1, ((2, 1),), ("wish", 1), ("wish", 0)), ("wish", 2)))
        self.assertEqual(tree_lines(Book(0, [()]), ("leaf", 0)), ("wish", 0))

    def test_questions_that_are_not_needed(self):
        book = Book(3, [((1, 0),), ((1, 1),), ((2, 0),)])
        inner = ("ask", 1, ("leaf", 1), ("leaf", 0))
        expected = ("from", 1, (), ("wish", 1), ("wish", 0))
        self.assertEqual(tree_lines(book, ("ask", 3, inner, inner)), expected)
        # The side for the answer 0 is looked at first.
        self.assertEqual(tree_lines(book, ("ask", 2, inner, ("leaf", 2))), expected)
        book = Book(3, [((1, 0),), ((1, 1),), ((2, 1),)])
        self.assertEqual(tree_lines(book, ("ask", 2, ("leaf", 2), inner)), expected)
        book = Book(2, [(), ((1, 0),), ((2, 1),)])
        tree = ("ask", 2, ("leaf", 2), ("ask", 1, ("leaf", 0), ("leaf", 1)))
        self.assertEqual(tree_lines(book, tree), ("wish", 0))

    def test_both_sides_without_the_word(self):
        book = Book(2, [(), ((1, 0),), ((1, 1),)])
        tree = ("ask", 2, ("ask", 1, ("leaf", 2), ("leaf", 1)), ("leaf", 0))
        self.assertEqual(tree_lines(book, tree), ("from", 1, (), ("wish", 2), ("wish", 1)))
        tree = ("ask", 2, ("leaf", 0), ("ask", 1, ("leaf", 2), ("leaf", 1)))
        self.assertEqual(tree_lines(book, tree), ("wish", 0))

    def test_trees_of_books(self):
        source = random.Random(75)
        count = 0
        for book in sample_books(76, 60) + [chain_book(5), full_book(4)]:
            for _ in range(4):
                tree = random_tree(source, book)
                if tree is not None:
                    found = tree_lines(book, tree)
                    self.assertEqual(found, lined(book, tree))
                    self.assertIsNone(fault(book, found))
                    self.assertLessEqual(leaves_of(found), len(leaf_ways(tree)))
                    self.assertTrue(plain(found))
                    count += 1
        self.assertGreater(count, 60)

    def test_trees_with_a_fault(self):
        self.assertEqual(told(tree_lines, BOOK, ("leaf", 9)), raised("BadPaper", (), "wish"))
        self.assertEqual(told(tree_lines, BOOK, ("leaf", 1)), raised("BadPaper", (), "unbroken"))
        tree = ("ask", 1, ("leaf", 1), ("ask", 1, ("leaf", 0), ("leaf", 2)))
        self.assertEqual(told(tree_lines, BOOK, tree), raised("BadPaper", ((1, 1),), "again"))
        tree = ("ask", 1, ("leaf", 1), ("ask", 3, ("leaf", 0), ("leaf", 2)))
        self.assertEqual(told(tree_lines, BOOK, tree), raised("BadPaper", ((1, 1),), "name"))

    def test_many_leaves_and_forty_names(self):
        # The full book of seven names, asked behind questions that are not needed: 31 times 128 leaves.
        book = Book(40, all_fillings(7))
        tree = full_tree(7)
        wide = many_times(tree, 31, list(range(8, 41)))
        self.assertEqual(tree_leaves(wide), 31 * 128)
        found = tree_lines(book, wide)
        self.assertEqual(found, lined(book, tree))
        self.assertEqual(leaves_of(found), 128)
        book = Book(40, [[(x, 1) for x in range(1, 41)]] + [[(x, 0)] for x in range(1, 41)])
        tree = ("leaf", book.wishes.index(tuple((x, 1) for x in range(1, 41))))
        for name in range(40, 0, -1):
            tree = ("ask", name, tree, ("leaf", book.wishes.index(((name, 0),))))
        self.assertEqual(tree_lines(book, tree), lined(book, tree))
        self.assertEqual(leaves_of(tree_lines(book, tree)), 41)


def full_tree(size, way=()):
    """The tree that asks all names of the full book in turn."""
    if len(way) == size:
        index = sum((1 - v) << (size - x) for x, v in way)
        return ("leaf", index)
    name = len(way) + 1
    return ("ask", name, full_tree(size, way + ((name, 0),)), full_tree(size, way + ((name, 1),)))


def many_times(tree, times, names):
    if times == 1:
        return tree
    half = times // 2
    return ("ask", names[0], many_times(tree, half, names[1:]), many_times(tree, times - half, names[1:]))


class LinesTree(unittest.TestCase):

    def test_ordinary_line_trees(self):
        self.assertEqual(lines_tree(BOOK, PAPER), ("ask", 1, ("leaf", 1), ("ask", 2, ("leaf", 0), ("leaf", 2))))
        self.assertEqual(lines_tree(Book(0, [()]), ("wish", 0)), ("leaf", 0))

    def test_names_that_are_used_again(self):
        book = Book(2, [((1, 0),), ((1, 1),)])
        inner = ("from", 1, (), ("wish", 1), ("wish", 0))
        tree = ("ask", 1, ("leaf", 1), ("leaf", 0))
        self.assertEqual(lines_tree(book, ("from", 1, (), inner, ("wish", 0))), tree)
        self.assertEqual(lines_tree(book, ("from", 1, (), inner, inner)), tree)
        deep = ("from", 1, (), ("from", 2, ((1, 1),), inner, inner), inner)
        self.assertEqual(lines_tree(book, deep), ("ask", 1, ("ask", 2, ("leaf", 1), ("leaf", 1)), ("leaf", 0)))
        deep = ("from", 2, (), ("from", 1, ((2, 1),), inner, ("wish", 0)), inner)
        self.assertEqual(lines_tree(book, deep), ("ask", 2, tree, tree))

    def test_line_trees_of_books(self):
        for book, paper in papers(77, 70, [chain_book(5), full_book(4)]):
            found = lines_tree(book, paper)
            self.assertEqual(found, walked(paper))
            self.assertTrue(right_tree(book, found))
            self.assertLessEqual(tree_leaves(found), leaves_of(paper))
            self.assertTrue(plain(found))

    def test_line_trees_with_a_fault(self):
        below = ("from", 0, (), ("wish", 0), ("wish", 0))
        for paper, place, kind in ((("wish", 9), (), "wish"), (("wish", 1), (), "end"),
                                   (("from", 1, (), ("wish", 1), below), (1,), "name"),
                                   (("from", 1, ((9, 9),), ("wish", 1), ("wish", 0)), (), "line"),
                                   (("from", 1, ((1, 1),), ("wish", 1), ("wish", 0)), (), "asked"),
                                   (("from", 1, (), ("wish", 0), ("wish", 0)), (), "left"),
                                   (("from", 1, (), ("wish", 1), ("wish", 0)), (), "right")):
            self.assertEqual(told(lines_tree, BOOK, paper), raised("BadPaper", place, kind))

    def test_there_and_back(self):
        source = random.Random(78)
        for book in sample_books(79, 40) + [chain_book(5)]:
            tree = random_tree(source, book)
            if tree is not None:
                again = lines_tree(book, tree_lines(book, tree))
                self.assertTrue(right_tree(book, again))
                self.assertLessEqual(tree_leaves(again), tree_leaves(tree))

    def test_great_line_trees(self):
        book = Book(40, [()])
        paper = grown(4000, list(range(1, 41)))
        found = lines_tree(book, paper)
        self.assertEqual(found, walked(paper))
        self.assertEqual(tree_leaves(found), 4000)
        for side in (0, 1):
            paper = ladder([1 + k % 40 for k in range(99)], side)
            self.assertEqual(lines_tree(book, paper), walked(paper))
            self.assertEqual(tree_leaves(lines_tree(book, paper)), 41)


if __name__ == "__main__":
    unittest.main()
