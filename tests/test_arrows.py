"""Points 131 and 132 and the interface of arrows."""

import itertools
import random
import unittest

from papersorliars.arrows import carried_liar, carried_paper
from papersorliars.books import Book
from papersorliars.chances import chances, chances_fault
from papersorliars.depth import depth_liar_fault
from papersorliars.designs import design, design_fault, design_liar
from papersorliars.families import chain, full, full_chances
from papersorliars.kept import keep_liar, keep_liar_fault, kept_lines
from papersorliars.linetrees import line_tree_fault, lines_tree, tree_lines
from papersorliars.lines import lines_fault
from papersorliars.mixing import chances_design, chances_keep, line_weights, sum_weights, tree_weights
from papersorliars.points import point_table, table_stands
from papersorliars.steps import steps_fault
from papersorliars.stepping import line_steps, sum_steps
from papersorliars.sums import sum_degree, sum_fault, sum_paper, tree_sum
from papersorliars.tellers import teller_design, tellers
from papersorliars.trees import tree_depth, tree_fault
from papersorliars.turning import narrow_lines
from papersorliars.unrolling import flat_lines, unrolled
from papersorliars.weights import weights_fault
from tests.algebra import FIELDS, GREAT, NO_FIELDS
from tests.helpers import plain, raised, random_tree, sample_books, told
from tests.rowpapers import width_of

PAPERS = ("tree", "linetree", "lines", "sum", "steps", "weights")
LIARS = ("chances", "keep", "design", "tellers", "table", "depth")
PAPER_PAIRS = {
    ("tree", "linetree"): lambda b, f, p: tree_lines(b, p), ("tree", "lines"): lambda b, f, p: narrow_lines(b, p),
    ("tree", "sum"): tree_sum, ("tree", "weights"): lambda b, f, p: tree_weights(b, p),
    ("linetree", "tree"): lambda b, f, p: lines_tree(b, p), ("linetree", "lines"): lambda b, f, p: flat_lines(b, p),
    ("lines", "linetree"): lambda b, f, p: unrolled(b, p), ("lines", "steps"): line_steps,
    ("lines", "weights"): lambda b, f, p: line_weights(b, p), ("sum", "steps"): sum_steps,
    ("sum", "weights"): lambda b, f, p: sum_weights(b, p),
}
LIAR_PAIRS = {
    ("chances", "keep"): lambda b, f, k, t: (k - 1, chances_keep(b, k, t)),
    ("chances", "design"): lambda b, f, k, t: (k, chances_design(b, k, t)),
    ("tellers", "design"): lambda b, f, k, t: (k, teller_design(b, f, k, t)),
    ("design", "depth"): lambda b, f, k, t: (k, design_liar(b, f, k, t)),
    ("keep", "depth"): lambda b, f, k, t: (k + 1, t),
    ("table", "depth"): lambda b, f, k, t: (k, table_stands(b, k, t)),
}
ZERO_ONLY = (("sum", "weights"), ("chances", "design"))
# The wishes are ((1, 0), (2, 1)), ((1, 1),) and ((2, 0),).
BOOK = Book(2, [((1, 0), (2, 1)), ((1, 1),), ((2, 0),)])
TREE = ("ask", 1, ("leaf", 1), ("ask", 2, ("leaf", 0), ("leaf", 2)))


def paper_of(book, kind, field, tree):
    """A paper of the kind, made of the tree."""
    if kind == "tree":
        return tree
    if kind == "steps":
        return sum_steps(book, field, tree_sum(book, field, tree))
    return PAPER_PAIRS[("tree", kind)](book, field, tree)


def check_paper(case, book, kind, field, paper):
    """Checks a paper by the check of its kind; weights are checked in another place, with their bound."""
    case.assertTrue(plain(paper))
    if kind == "tree":
        case.assertIsNone(tree_fault(book, paper))
    elif kind == "linetree":
        case.assertIsNone(line_tree_fault(book, paper))
    elif kind == "lines":
        case.assertIsNone(lines_fault(book, paper))
    elif kind == "sum":
        case.assertIsNone(sum_fault(book, field, paper))
    elif kind == "steps":
        case.assertIsNone(steps_fault(book, field, paper))
    else:
        case.assertIn(None, [weights_fault(book, bound, paper) for bound in range(book.names + 1)])


def object_of(book, kind, field, bound):
    if kind == "chances":
        return chances(book, bound)
    if kind == "keep":
        return keep_liar(book, bound)
    if kind == "design":
        return design(book, field, bound)
    return tellers(book, field, bound) if kind == "tellers" else point_table(book, bound)


def check_object(case, book, kind, field, bound, thing):
    """Checks an object by the check of its kind."""
    case.assertTrue(plain(thing))
    if kind == "keep":
        case.assertIsNone(keep_liar_fault(book, bound, thing))
    elif kind == "design":
        case.assertIsNone(design_fault(book, field, bound, thing))
    else:
        case.assertEqual(kind, "depth")
        case.assertIsNone(depth_liar_fault(book, bound, thing))


class Papers(unittest.TestCase):

    def test_every_turning(self):
        source = random.Random(621)
        count = {pair: 0 for pair in PAPER_PAIRS}
        books = [book for book in sample_books(622, 40) if book.names <= 4] + [chain(4), full(4)]
        for at, book in enumerate(books):
            tree = random_tree(source, book)
            for (kind, goal), call in PAPER_PAIRS.items() if tree else ():
                field = 0 if (kind, goal) in ZERO_ONLY else FIELDS[at % 5]
                paper = paper_of(book, kind, field, tree)
                found = carried_paper(book, (kind, goal), paper, field=field)
                self.assertEqual(found, call(book, field, paper))
                check_paper(self, book, goal, field, found)
                if field == 0:
                    self.assertEqual(carried_paper(book, (kind, goal), paper), found)
                count[(kind, goal)] += 1
        self.assertGreater(min(count.values()), 10)

    def test_every_pair_of_kinds(self):
        for pair in itertools.product(PAPERS + ("depth", "keep", "", "Tree", "line"), repeat=2):
            if pair in PAPER_PAIRS:
                found = carried_paper(BOOK, pair, paper_of(BOOK, pair[0], 0, TREE))
                check_paper(self, BOOK, pair[1], 0, found)
            else:
                self.assertEqual(told(carried_paper, BOOK, pair, ("leaf", 9)), raised("BadArrow", *pair))
        for pair in LIAR_PAIRS:
            self.assertEqual(told(carried_paper, BOOK, pair, ()), raised("BadArrow", *pair))

    def test_longer_rows(self):
        rows = [("tree", "linetree", "tree"), ("tree", "lines", "linetree", "tree", "sum", "steps"),
                ("tree", "linetree", "lines", "linetree", "lines", "weights"), ("tree", "lines", "steps"),
                ("linetree", "tree", "linetree", "tree", "weights"), ("lines", "linetree", "lines"),
                ["tree", "sum", "weights"]]
        source = random.Random(623)
        for at, book in enumerate(sample_books(624, 40) + [chain(4)]):
            tree = random_tree(source, book)
            for kinds in rows if tree else ():
                field = 0 if kinds[-1] == "weights" else FIELDS[at % 5]
                paper = expected = paper_of(book, kinds[0], field, tree)
                for pair in zip(kinds, kinds[1:]):
                    expected = PAPER_PAIRS[pair](book, field, expected)
                found = carried_paper(book, kinds, paper, field=field)
                self.assertEqual(found, expected)
                check_paper(self, book, kinds[-1], field, found)

    def test_bounds_that_are_kept(self):
        source = random.Random(625)
        for book in sample_books(626, 40) + [chain(4), full(4)]:
            tree = random_tree(source, book)
            if tree is not None:
                depth = tree_depth(tree)
                self.assertLessEqual(sum_degree(book, carried_paper(book, ("tree", "sum"), tree)), depth)
                steps = carried_paper(book, ("tree", "sum", "steps"), tree, field=3)
                self.assertIsNone(steps_fault(book, 3, steps, most=depth))
                self.assertIsNone(weights_fault(book, depth, carried_paper(book, ("tree", "weights"), tree)))
                rows = carried_paper(book, ("tree", "lines"), tree)
                self.assertIsNone(steps_fault(book, 0, line_steps(book, 0, rows), most=width_of(rows) + 1))

    def test_turnings_over_0_only(self):
        paper = tree_sum(BOOK, 0, TREE)
        self.assertEqual(carried_paper(BOOK, ("sum", "weights"), paper), sum_weights(BOOK, paper))
        for field in (*FIELDS[1:], *NO_FIELDS):
            for kinds in (("sum", "weights"), ("tree", "sum", "weights")):
                for thing in (paper, TREE, (0, ()), ("leaf", 9)):
                    self.assertEqual(told(carried_paper, BOOK, kinds, thing, field=field),
                                     raised("BadArrow", "sum", "weights"))
        self.assertEqual(told(carried_paper, BOOK, ("sum", "tree", "weights"), paper, field=2),
                         raised("BadArrow", "sum", "tree"))

    def test_fields(self):
        for field in NO_FIELDS:
            for kinds in (("tree", "sum"), ("tree", "lines", "steps"), ("sum", "steps"), ("lines", "steps")):
                paper = paper_of(BOOK, kinds[0], 0, TREE)
                self.assertEqual(told(carried_paper, BOOK, kinds, paper, field=field), raised("BadField", field))
            for kinds in (("tree", "linetree"), ("tree", "lines", "weights"), ("tree", "weights"), ("lines", "linetree"),
                          ("linetree", "tree", "linetree", "lines")):
                paper = paper_of(BOOK, kinds[0], 0, TREE)
                self.assertEqual(carried_paper(BOOK, kinds, paper, field=field), carried_paper(BOOK, kinds, paper))

    def test_bad_arrows_go_ahead_of_all_other_errors(self):
        wrong = ("leaf", 9)
        for book in (BOOK, Book(5, []), Book(40, [()])):
            for field in (0, 2, 4):
                for kinds, pair in ((("tree", "tree"), ("tree", "tree")), (("tree", "steps"), ("tree", "steps")),
                                    (("tree", "sum", "lines"), ("sum", "lines")), (("tree", "x", "y"), ("tree", "x")),
                                    (("tree", "lines", "tree", "linetree", "sum"), ("lines", "tree")),
                                    (("weights", "tree", "x"), ("weights", "tree"))):
                    self.assertEqual(told(carried_paper, book, kinds, wrong, field=field), raised("BadArrow", *pair))

    def test_errors_of_later_turnings_come_when_the_earlier_ones_are_done(self):
        wrong = ("leaf", 9)
        for field in (0, 4):
            for kinds in (("tree", "linetree", "lines", "steps"), ("tree", "lines", "weights")):
                # The tree is wrong, and steps are not made for so many names, nor weights.
                for names in (2, 5, 6, 40):
                    book = Book(names, BOOK.wishes)
                    self.assertEqual(told(carried_paper, book, kinds, wrong, field=field), raised("BadPaper", (), "wish"))
            self.assertEqual(told(carried_paper, Book(6, BOOK.wishes), ("tree", "lines", "steps"), TREE, field=field),
                             raised("TooLarge", 6, 5))
            self.assertEqual(told(carried_paper, Book(5, BOOK.wishes), ("tree", "lines", "weights"), TREE, field=field),
                             raised("TooLarge", 5, 4))
            self.assertEqual(told(carried_paper, Book(6, BOOK.wishes), ("tree", "sum", "steps"), wrong, field=field),
                             raised("TooLarge", 6, 5))
        self.assertEqual(told(carried_paper, BOOK, ("tree", "sum", "steps"), wrong, field=4), raised("BadField", 4))
        self.assertEqual(told(carried_paper, BOOK, ("tree", "lines", "steps"), TREE, field=4), raised("BadField", 4))

    def test_faults(self):
        rows = kept_lines(BOOK, 1)
        paper = sum_paper(BOOK, 2, 2)
        for kind, thing, place, fault in (("tree", ("leaf", 0), (), "unbroken"), ("linetree", ("wish", 0), (), "end"),
                                          ("lines", rows[:1], 1, "end"), ("sum", (0, paper[1]), len(paper[1]), "total")):
            for pair in PAPER_PAIRS:
                if pair[0] == kind:
                    self.assertEqual(told(carried_paper, BOOK, pair, thing), raised("BadPaper", place, fault))


class Objects(unittest.TestCase):

    def test_every_turning(self):
        count = {pair: 0 for pair in LIAR_PAIRS}
        for at, book in enumerate(sample_books(627, 40) + [chain(4), full(4)]):
            for (kind, goal), call in LIAR_PAIRS.items():
                field = 0 if (kind, goal) in ZERO_ONLY else FIELDS[at % 5]
                for bound in (0, 1, 2, 3, GREAT):
                    thing = object_of(book, kind, field, bound)
                    if thing is None or (kind, goal, bound) == ("chances", "keep", 0):
                        continue
                    found = carried_liar(book, (kind, goal), bound, thing, field=field)
                    self.assertIs(type(found), tuple)
                    self.assertEqual(found, call(book, field, bound, thing))
                    check_object(self, book, goal, field, *found)
                    count[(kind, goal)] += 1
        self.assertGreater(min(count.values()), 30)

    def test_every_pair_of_kinds(self):
        book = full(3)
        for pair in itertools.product(LIARS + ("tree", "lines", "", "Depth", "stands"), repeat=2):
            if pair in LIAR_PAIRS:
                found = carried_liar(book, pair, 1, object_of(book, pair[0], 0, 1))
                check_object(self, book, pair[1], 0, *found)
            else:
                self.assertEqual(told(carried_liar, book, pair, 1, ()), raised("BadArrow", *pair))
        for pair in PAPER_PAIRS:
            self.assertEqual(told(carried_liar, book, pair, 1, ()), raised("BadArrow", *pair))

    def test_longer_rows(self):
        rows = [("chances", "keep", "depth"), ("chances", "design", "depth"), ("tellers", "design", "depth")]
        for at, book in enumerate(sample_books(628, 40) + [chain(4), full(4)]):
            for kinds in rows:
                field = FIELDS[at % 5] if kinds[0] == "tellers" else 0
                for bound in (1, 2, 3):
                    thing = object_of(book, kinds[0], field, bound)
                    if thing is not None:
                        found = carried_liar(book, kinds, bound, thing, field=field)
                        expected = (bound, thing)
                        for pair in zip(kinds, kinds[1:]):
                            expected = LIAR_PAIRS[pair](book, field, *expected)
                        self.assertEqual(found, expected)
                        self.assertEqual(found[0], bound)
                        check_object(self, book, "depth", field, *found)

    def test_chances_of_degree_1(self):
        rows = full_chances(2, 1)
        stands = ((), ((1, 0),), ((1, 1),), ((2, 0),), ((2, 1),))
        self.assertEqual(carried_liar(full(2), ("chances", "keep"), 1, rows), (0, stands))
        self.assertEqual(carried_liar(full(2), ("chances", "keep", "depth"), 1, rows), (1, stands))

    def test_kept_answers_are_checked(self):
        stands = keep_liar(BOOK, 0)
        self.assertEqual(carried_liar(BOOK, ("keep", "depth"), 0, stands), (1, stands))
        self.assertEqual(told(carried_liar, BOOK, ("keep", "depth"), 0, stands[1:]), raised("BadLiar", (), "empty"))
        self.assertEqual(told(carried_liar, BOOK, ("keep", "depth"), 0, ((),)), raised("BadLiar", (), "stuck"))
        self.assertEqual(told(carried_liar, BOOK, ("keep", "depth"), 1, stands), raised("BadLiar", ((1, 1),), "stuck"))
        # There is no limit of names.
        stands = ((),) + tuple(((x, v),) for x in range(1, 41) for v in (0, 1))
        self.assertEqual(carried_liar(Book(40, []), ("keep", "depth"), 0, stands), (1, stands))

    def test_turnings_over_0_only(self):
        rows = full_chances(2, 1)
        for field in (*FIELDS[1:], *NO_FIELDS):
            for kinds in (("chances", "design"), ("chances", "design", "depth")):
                for thing in (rows, ()):
                    self.assertEqual(told(carried_liar, full(2), kinds, 1, thing, field=field),
                                     raised("BadArrow", "chances", "design"))
            found = told(carried_liar, full(2), ("chances", "keep", "depth"), 1, rows, field=field)
            self.assertEqual(found, carried_liar(full(2), ("chances", "keep", "depth"), 1, rows))

    def test_fields(self):
        table, stands = point_table(BOOK, 0), keep_liar(BOOK, 0)
        for field in NO_FIELDS:
            for kinds in (("tellers", "design"), ("tellers", "design", "depth"), ("design", "depth")):
                thing = object_of(BOOK, kinds[0], 0, 1)
                self.assertEqual(told(carried_liar, BOOK, kinds, 1, thing, field=field), raised("BadField", field))
            self.assertEqual(carried_liar(BOOK, ("table", "depth"), 0, table, field=field),
                             (0, table_stands(BOOK, 0, table)))
            self.assertEqual(carried_liar(BOOK, ("keep", "depth"), 0, stands, field=field), (1, stands))
        # The number 2 is 0 over 2, and not over other fields.
        self.assertEqual(told(carried_liar, BOOK, ("design", "depth"), 0, (((), 2),), field=2), raised("BadLiar", 0, "one"))
        self.assertEqual(carried_liar(BOOK, ("design", "depth"), 0, (((), 2),)), (0, ((),)))

    def test_bad_arrows_go_ahead_of_all_other_errors(self):
        for book in (BOOK, Book(5, []), Book(40, [()])):
            for field in (0, 2, 4):
                for kinds, pair in ((("keep", "keep"), ("keep", "keep")), (("depth", "keep"), ("depth", "keep")),
                                    (("chances", "keep", "design"), ("keep", "design")), (("table", "x", "y"), ("table", "x")),
                                    (("tellers", "design", "depth", "table"), ("depth", "table")),
                                    (("tellers", "depth"), ("tellers", "depth"))):
                    self.assertEqual(told(carried_liar, book, kinds, 1, (), field=field), raised("BadArrow", *pair))

    def test_errors_of_later_turnings_come_when_the_earlier_ones_are_done(self):
        bad = (((), 0),)
        self.assertEqual(told(carried_liar, BOOK, ("tellers", "design", "depth"), 0, ()), raised("BadLiar", 0, "one"))
        self.assertEqual(told(carried_liar, Book(6, []), ("tellers", "design", "depth"), 0, (), field=4),
                         raised("TooLarge", 6, 5))
        self.assertEqual(told(carried_liar, BOOK, ("tellers", "design", "depth"), 0, (), field=4), raised("BadField", 4))
        self.assertEqual(told(carried_liar, Book(5, []), ("chances", "keep", "depth"), 1, bad), raised("TooLarge", 5, 4))
        self.assertEqual(told(carried_liar, BOOK, ("chances", "keep", "depth"), 1, bad), raised("BadLiar", 1, "row"))
        self.assertEqual(told(carried_liar, BOOK, ("table", "depth"), 0, ()), raised("BadLiar", (), "empty"))

    def test_right_chances_are_not_changed(self):
        rows = full_chances(3, 2)
        copy = tuple(rows)
        carried_liar(full(3), ("chances", "design", "depth"), 2, rows)
        self.assertEqual(rows, copy)
        self.assertIsNone(chances_fault(full(3), 2, rows))


if __name__ == "__main__":
    unittest.main()
