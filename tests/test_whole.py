"""What the document promises over the whole program: measures, changed books, orders of errors, and its examples."""

import random
import unittest

from papersorliars.books import Book
from papersorliars.changes import narrowed, renamed, renamed_row, turned, turned_row
from papersorliars.chances import chances, chances_fault, least_chance
from papersorliars.depth import depth_liar, depth_liar_fault, depth_tree, joined_depth_liar, least_depth
from papersorliars.designs import design, design_fault, joined_design
from papersorliars.families import chain, full
from papersorliars.kept import joined_keep_liar, keep_liar, keep_liar_fault, kept_lines, least_kept
from papersorliars.leaves import leaf_tree
from papersorliars.lines import lines_fault
from papersorliars.mixing import chances_after, cut, joined_chances, line_weights, sum_weights, tree_weights
from papersorliars.narrowing import narrowed_lines
from papersorliars.points import least_points, point_table, point_table_fault, point_tree
from papersorliars.seven import MANNERS, either, least, liar_fault, measures, paper_fault
from papersorliars.steps import step_paper, steps_fault
from papersorliars.sums import sum_fault, sum_paper
from papersorliars.tellers import tellers, tellers_fault
from papersorliars.texts import read_value, value_text
from papersorliars.trees import narrowed_tree, renamed_tree, tree_depth, tree_fault, tree_leaves, turned_tree
from papersorliars.weights import weights, weights_fault
from tests.algebra import FIELDS, GREAT
from tests.helpers import all_stands, kept, plain, raised, random_book, random_wish, sample_books, told


def some_books(seed, many=30):
    source = random.Random(seed)
    return sample_books(seed + 1, many) + [chain(4), full(3), random_book(source, 4, 12, 1, 3)]


def random_order(source, book):
    order = list(range(1, book.names + 1))
    source.shuffle(order)
    return tuple(order)


def some_names(source, book):
    return tuple(x for x in range(1, book.names + 1) if source.random() < 0.5)


def pairs_of_books(seed):
    """Pairs of books with at most four names together."""
    books = sample_books(seed, 20, 2)
    return [(first, second) for first in books for second in books if first.names + second.names <= 4]


def at_most(one, other):
    """Whether the measure is at most the other one; None is that of a book that is kept."""
    return other is None or one is not None and one <= other


class Values(unittest.TestCase):

    def test_all_papers_and_objects_are_values_that_are_read_back(self):
        for at, book in enumerate(some_books(651)):
            field = FIELDS[at % 5]
            for manner in MANNERS:
                for bound in (0, 1, 2, GREAT):
                    kind, thing = either(book, manner, bound, field=field)
                    self.assertIn(kind, ("paper", "liar"))
                    self.assertTrue(plain(thing))
                    self.assertEqual(read_value(value_text(thing)), thing)

    def test_books_that_are_kept_have_no_papers(self):
        for book in some_books(653):
            for field in (0, 3):
                self.assertEqual(measures(book, field=field) == (None,) * 7, kept(book))
                self.assertEqual(None in measures(book, field=field), kept(book))
                for manner in MANNERS:
                    measure = least(book, manner, field=field)
                    for bound in (0, 1, 2, 3, 9, GREAT):
                        kind = "paper" if measure is not None and measure <= bound else "liar"
                        self.assertEqual(either(book, manner, bound, field=field)[0], kind)


class Changed(unittest.TestCase):

    def test_measures_of_renamed_and_turned_books(self):
        source = random.Random(655)
        for book in some_books(656):
            order, names = random_order(source, book), some_names(source, book)
            for field in (0, 2):
                expected = measures(book, field=field)
                self.assertEqual(measures(renamed(book, order), field=field), expected)
                self.assertEqual(measures(turned(book, names), field=field), expected)

    def test_measures_of_narrowed_books_and_books_with_more_wishes(self):
        source = random.Random(657)
        for book in some_books(658):
            stand = source.choice(all_stands(book.names))
            wider = book | Book(book.names, [random_wish(source, book.names) for _ in range(3)])
            for other in (narrowed(book, stand), wider):
                for manner, one, two in zip(MANNERS, measures(other), measures(book)):
                    self.assertTrue(at_most(one, two), (manner, book.wishes, other.wishes))

    def test_trees(self):
        source = random.Random(659)
        for book in some_books(660):
            tree = depth_tree(book, GREAT)
            if tree is None:
                continue
            order, names, stand = random_order(source, book), some_names(source, book), all_stands(book.names)[-1]
            for manner in ("depth", "leaves", "points"):
                paper, bound = either(book, manner, GREAT)[1], least(book, manner)
                changed = [(renamed(book, order), renamed_tree(book, paper, order)),
                           (turned(book, names), turned_tree(book, paper, names)),
                           (narrowed(book, stand), narrowed_tree(book, paper, stand))]
                for other, found in changed:
                    self.assertIsNone(paper_fault(other, manner, bound, found))

    def test_rows_of_stands(self):
        source = random.Random(661)
        for book in some_books(662):
            order, names = random_order(source, book), some_names(source, book)
            for bound in (0, 1, 2):
                for call in (depth_liar, keep_liar):
                    found = call(book, bound)
                    if found is not None:
                        moved = tuple(sorted(renamed_row(stand, order) for stand in found))
                        self.assertEqual(call(renamed(book, order), bound), moved)
                        moved = tuple(sorted(turned_row(stand, names) for stand in found))
                        self.assertEqual(call(turned(book, names), bound), moved)

    def test_rows_with_numbers(self):
        source = random.Random(663)
        for book in some_books(664):
            order, names = random_order(source, book), some_names(source, book)
            for bound in (0, 1, 2):
                table = point_table(book, bound)
                if table is not None:
                    moved = tuple(sorted((renamed_row(stand, order), number) for stand, number in table))
                    self.assertEqual(point_table(renamed(book, order), bound), moved)
                for call, check in ((weights, weights_fault), (chances, chances_fault)):
                    rows = call(book, bound)
                    if rows is not None:
                        moved = tuple(sorted((renamed_row(stand, order), number) for stand, number in rows))
                        self.assertIsNone(check(renamed(book, order), bound, moved))
                        moved = tuple(sorted((turned_row(stand, names), number) for stand, number in rows))
                        self.assertIsNone(check(turned(book, names), bound, moved))

    def test_narrowed_papers_and_objects(self):
        source = random.Random(665)
        for book in some_books(666):
            for bound in (1, 2, 3):
                rows, pairs = kept_lines(book, bound), chances(book, bound)
                for stand in source.sample(all_stands(book.names), min(4, 3 ** book.names)):
                    less = narrowed(book, stand)
                    if rows is not None:
                        self.assertIsNone(lines_fault(less, narrowed_lines(book, rows, stand), most=bound))
                    if pairs is not None and len(stand) == 1 and dict(pairs)[stand] > 0:
                        found = chances_after(book, bound, pairs, *stand[0])
                        self.assertIsNone(chances_fault(less, bound - 1, found))

    def test_objects_of_books_with_more_wishes(self):
        source = random.Random(667)
        for at, book in enumerate(some_books(668)):
            wider = book | Book(book.names, [random_wish(source, book.names) for _ in range(2)])
            field = FIELDS[at % 5]
            for bound in (0, 1, 2):
                # What is against the wider book is against the book, too; weights of the book are weights of both.
                for call, check in ((depth_liar, depth_liar_fault), (keep_liar, keep_liar_fault),
                                    (point_table, point_table_fault), (chances, chances_fault)):
                    found = call(wider, bound)
                    if found is not None:
                        self.assertIsNone(check(book, bound, found))
                for call, check in ((design, design_fault), (tellers, tellers_fault)):
                    found = call(wider, field, bound)
                    if found is not None:
                        self.assertIsNone(check(book, field, bound, found))
                found = weights(book, bound)
                if found is not None:
                    self.assertIsNone(weights_fault(wider, bound, found))


class Joined(unittest.TestCase):

    def test_measures_side_by_side(self):
        for first, second in pairs_of_books(669):
            for manner, one, two, both in zip(MANNERS, measures(first), measures(second), measures(first + second)):
                expected = min([number for number in (one, two) if number is not None], default=None)
                self.assertEqual(both, expected, manner)

    def test_objects_side_by_side(self):
        for first, second in pairs_of_books(671):
            both = first + second
            for bound in (0, 1, 2):
                for call, join, check in ((depth_liar, joined_depth_liar, depth_liar_fault),
                                          (keep_liar, joined_keep_liar, keep_liar_fault),
                                          (chances, joined_chances, chances_fault)):
                    rows, others = call(first, bound), call(second, bound)
                    if rows is not None and others is not None:
                        found = join(first, second, bound, rows, others)
                        self.assertIsNone(check(both, bound, found))
                rows, others = design(first, 0, bound), design(second, 0, bound)
                if rows is not None and others is not None:
                    found = joined_design(first, second, 0, bound, rows, others)
                    self.assertIsNone(design_fault(both, 0, bound, found))


class Manners(unittest.TestCase):

    def test_how_the_measures_compare(self):
        for at, book in enumerate(some_books(673, 60)):
            field = FIELDS[at % 5]
            depth, leaves, points, width, degree, steps, chance = measures(book, field=field)
            if depth is None:
                continue
            self.assertTrue(points <= depth < leaves <= 2 ** depth or depth == 0)
            self.assertTrue(steps <= degree <= depth)
            self.assertLessEqual(width, points + max(1, book.widest) - 1)
            # Rows of lines give steps and weights, and a paper without rows gives them of the bound 0.
            most = 0 if kept_lines(book, width) == () else width + 1
            self.assertLessEqual(max(steps, chance), most)
            self.assertLessEqual(width, max(depth - 1, 0))
            self.assertLessEqual(chance, least(book, "sum"))
            self.assertEqual(points == 0, () in book)

    def test_papers_of_each_measure(self):
        for book in some_books(675):
            if kept(book):
                continue
            self.assertEqual(tree_depth(depth_tree(book, least_depth(book))), least_depth(book))
            self.assertEqual(tree_leaves(leaf_tree(book, least(book, "leaves"))), least(book, "leaves"))
            self.assertIsNone(tree_fault(book, point_tree(book, least_points(book))))
            for rows in (tree_weights(book, depth_tree(book, GREAT)), sum_weights(book, sum_paper(book, 0, GREAT)),
                         line_weights(book, kept_lines(book, least_kept(book)))):
                self.assertIn(None, [weights_fault(book, bound, rows) for bound in range(book.names + 1)])

    def test_bounds_of_forty_digits(self):
        for book in some_books(677, 20):
            for bound in (GREAT, 10 ** 39 + 7):
                for manner in MANNERS:
                    kind, thing = either(book, manner, bound)
                    self.assertEqual(kind, "liar" if kept(book) else "paper")
                    fault = paper_fault if kind == "paper" else liar_fault
                    self.assertIsNone(fault(book, manner, bound, thing))
            if kept(book):
                self.assertEqual(cut(book, GREAT, chances(book, GREAT), 0), chances(book, GREAT)[:1])


class Errors(unittest.TestCase):

    def test_two_errors_at_once(self):
        # TooLarge, then BadField, then names and stands, then papers and objects, then NoLiar.
        five, six = Book(5, [()]), Book(6, [()])
        small = Book(1, [((1, 0),), ((1, 1),)])
        calls = [
            (step_paper, (six, 4, 0), (six, 0, 0), (small, 4, 0), ("TooLarge", 6, 5), ("BadField", 4)),
            (sum_fault, (six, 4, (0, ())), (six, 0, (1, ())), (small, 4, (1, ())), ("TooLarge", 6, 5), ("BadField", 4)),
            (steps_fault, (six, 4, ()), (six, 0, ()), (small, 4, ()), ("TooLarge", 6, 5), ("BadField", 4)),
            (chances_after, (five, 1, (), 9, 0), (five, 1, (), 1, 0), (small, 1, (), 9, 0), ("TooLarge", 5, 4),
             ("BadName", 9)),
            (chances_after, (small, 0, (), 9, 0), (small, 0, (), 9, 0), (small, 0, (), 1, 0), ("BadName", 9),
             ("BadLiar", 0, "row")),
            (narrowed_lines, (small, (), ((2, 0),)), (small, (), ((2, 0),)), (small, (), ()), ("BadStand", ((2, 0),)),
             ("BadPaper", 0, "end")),
        ]
        for call, both, first, second, one, two in calls:
            self.assertEqual(told(call, *both), raised(*one))
            self.assertEqual(told(call, *first), raised(*one))
            self.assertEqual(told(call, *second), raised(*two))

    def test_errors_that_are_not_in_the_list_go_ahead(self):
        rows = (((), 1),)
        for first, second in ((Book(40, []), Book(1, [])), (Book(30, []), Book(11, []))):
            for call in (joined_depth_liar, joined_keep_liar):
                self.assertEqual(told(call, first, second, 0, rows, rows), raised("BadNames", 41))
        for field in (0, 4):
            self.assertEqual(told(either, Book(7, []), "x", 0, field=field), raised("BadManner", "x"))
            self.assertEqual(told(measures, Book(5, []), field=field), raised("TooLarge", 5, 4))

    def test_checks_of_forty_names(self):
        # The checks without a limit take books of any size.
        book = chain(40)
        self.assertEqual(tree_fault(book, ("leaf", 0)), ((), "unbroken"))
        self.assertEqual(depth_liar_fault(book, 0, ((),)), None)
        self.assertEqual(keep_liar_fault(book, 0, ((),)), ((), "stuck"))
        self.assertEqual(point_table_fault(book, 0, (((), 1),)), None)
        self.assertEqual(least_chance(Book(4, [()])), 0)


if __name__ == "__main__":
    unittest.main()
