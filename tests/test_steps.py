"""Points 88, 91, 92, 95 and 98 and the interface of steps."""

import random
import unittest

from papersorliars.books import Book
from papersorliars.polys import Poly
from papersorliars.rooms import closed_room
from papersorliars.steps import least_steps, step_paper, step_polys, steps_either, steps_fault
from papersorliars.sums import least_sum
from papersorliars.tellers import tellers, tellers_fault
from tests import algebra, steprows
from tests.algebra import FIELDS, GREAT, NO_FIELDS
from tests.helpers import all_stands, chain_book, full_book, kept, plain, raised, random_book, sample_books, told
from tests.least import small_books

# The wishes are ((1, 0), (2, 1)), ((1, 1),) and ((2, 0),): the polynomials x - xy, 1 - x and y.
BOOK = Book(2, [((1, 0), (2, 1)), ((1, 1),), ((2, 0),)])
# x - xy + (1 - x) + xy = 1.
STEPS = (("wish", 0), ("wish", 1), ("wish", 2), ("times", 2, 1), ("sum", ((1, 0), (1, 1), (1, 3))))


def bounds_of(book):
    return [*range(book.names + 2), GREAT]


class Fault(unittest.TestCase):

    def test_right_steps(self):
        for field in FIELDS:
            self.assertIsNone(steps_fault(BOOK, field, STEPS))
            self.assertIsNone(steps_fault(BOOK, field, STEPS, most=None))
            self.assertIsNone(steps_fault(BOOK, field, STEPS, most=2))
            self.assertIsNone(steps_fault(BOOK, field, STEPS, most=GREAT))
            self.assertIsNone(steps_fault(Book(0, [()]), field, (("wish", 0),), most=0))
            self.assertIsNone(steps_fault(Book(3, [(), ((1, 0),)]), field, (("wish", 1), ("wish", 0)), most=1))

    def test_no_steps(self):
        for field in FIELDS:
            for book in (BOOK, Book(0, []), Book(5, [()])):
                self.assertEqual(steps_fault(book, field, ()), (0, "end"))
                self.assertEqual(steps_fault(book, field, (), most=0), (0, "end"))

    def test_wishes(self):
        for index in (-1, 3, 10 ** 40, -3):
            self.assertEqual(steps_fault(BOOK, 3, (("wish", index),)), (0, "wish"))
            self.assertEqual(steps_fault(BOOK, 0, STEPS + (("wish", index),)), (5, "wish"))
        self.assertEqual(steps_fault(Book(4, []), 0, (("wish", 0),)), (0, "wish"))

    def test_sources(self):
        for number in (-1, 5, 6, 10 ** 40, -5):
            for step in (("times", number, 1), ("times", number, 9), ("sum", ((1, number),)),
                         ("sum", ((1, 0), (1, number))), ("sum", ((0, number),)), ("sum", ((0, 0), (1, number)))):
                self.assertEqual(steps_fault(BOOK, 0, STEPS + (step,)), (5, "source"), step)
                self.assertEqual(steps_fault(BOOK, 7, STEPS + (step,), most=0), (0, "degree"), step)
        self.assertEqual(steps_fault(BOOK, 0, (("times", 0, 1),)), (0, "source"))
        self.assertEqual(steps_fault(BOOK, 0, (("sum", ((1, 0),)),)), (0, "source"))
        self.assertEqual(steps_fault(BOOK, 0, (("wish", 0), ("times", 1, 1))), (1, "source"))

    def test_names(self):
        for name in (0, -1, 3, 10 ** 40):
            self.assertEqual(steps_fault(BOOK, 5, STEPS + (("times", 4, name),)), (5, "name"))
            self.assertEqual(steps_fault(BOOK, 5, STEPS + (("times", 4, name),), most=2), (5, "name"))

    def test_numbers(self):
        for field in FIELDS:
            for number in (0, field, -field, 210 * field, field * 10 ** 40):
                self.assertEqual(steps_fault(BOOK, field, STEPS + (("sum", ((number, 0),)),)), (5, "number"))
                self.assertEqual(steps_fault(BOOK, field, STEPS + (("sum", ((1, 4), (number, 0))),)), (5, "number"))
        more = STEPS + (("sum", ((1, 4), (2, 0), (-2, 0))),)
        self.assertEqual([steps_fault(BOOK, field, more) for field in FIELDS], [None, (5, "number"), None, None, None])

    def test_degrees_of_wishes(self):
        for field in FIELDS:
            self.assertEqual(steps_fault(BOOK, field, STEPS, most=1), (0, "degree"))
            self.assertEqual(steps_fault(BOOK, field, STEPS[1:], most=0), (0, "degree"))
            self.assertEqual(steps_fault(BOOK, field, (("wish", 1), ("wish", 0)), most=1), (1, "degree"))

    def test_degrees_of_products(self):
        for field in FIELDS:
            steps = (("wish", 1), ("times", 0, 2), ("times", 1, 1))
            self.assertEqual(steps_fault(BOOK, field, steps, most=1), (1, "degree"))
            self.assertEqual(steps_fault(BOOK, field, steps, most=2), (2, "degree"))
            self.assertEqual(steps_fault(BOOK, field, steps, most=3), (3, "end"))
            # A sum of less degree may be multiplied: y - y x + y x is y.
            steps = (("wish", 2), ("times", 0, 1), ("sum", ((1, 0), (1, 1), (-1, 1))), ("times", 2, 1))
            self.assertEqual(steps_fault(BOOK, field, steps, most=2), (4, "end"))
            self.assertEqual(steps_fault(BOOK, field, steps, most=1), (1, "degree"))

    def test_polynomials_without_terms(self):
        for field in FIELDS:
            for step in (("sum", ()), ("sum", ((1, 0), (-1, 0)))):
                steps = (("wish", 0), step, ("times", 1, 1))
                book = Book(2, [()])
                self.assertEqual(steps_fault(book, field, steps, most=0), (2, "degree"))
                self.assertEqual(steps_fault(book, field, steps, most=1), (3, "end"))
                self.assertEqual(steps_fault(book, field, steps + (("wish", 0),), most=1), None)
                self.assertEqual(steps_fault(book, field, steps + (("wish", 0),)), None)

    def test_ends(self):
        for field in FIELDS:
            self.assertEqual(steps_fault(BOOK, field, STEPS[:4]), (4, "end"))
            self.assertEqual(steps_fault(BOOK, field, STEPS + (("wish", 1),)), (6, "end"))
            self.assertEqual(steps_fault(BOOK, field, STEPS + (("sum", ()),)), (6, "end"))
            self.assertEqual(steps_fault(BOOK, field, STEPS + (("sum", ((1, 4), (-1, 4))),)), (6, "end"))
        self.assertIsNone(steps_fault(BOOK, 0, STEPS + (("sum", ((11, 4), (10 ** 59, 4))),)))
        # 2 is a constant other than 0 but over 2, and 1 + 1 + 1 but over 3.
        twice, thrice = ("sum", ((1, 4), (1, 4))), ("sum", ((1, 4),) * 3)
        found = [steps_fault(BOOK, field, STEPS + (twice,)) for field in FIELDS]
        self.assertEqual(found, [None, (6, "end"), None, None, None])
        found = [steps_fault(BOOK, field, STEPS + (thrice,)) for field in FIELDS]
        self.assertEqual(found, [None, None, (6, "end"), None, None])

    def test_an_earlier_step_several_times(self):
        for field in FIELDS:
            steps = STEPS[:4] + (("sum", ((1, 0), (1, 1), (1, 3), (1, 1), (-1, 1))),)
            self.assertIsNone(steps_fault(BOOK, field, steps, most=2))

    def test_the_first_of_several_faults(self):
        self.assertEqual(steps_fault(BOOK, 0, (("times", 0, 9), ("wish", 9))), (0, "source"))
        self.assertEqual(steps_fault(BOOK, 0, (("wish", 0), ("times", 0, 9), ("wish", 9))), (1, "name"))
        self.assertEqual(steps_fault(BOOK, 0, (("wish", 0), ("sum", ((0, 0), (1, 1))), ("wish", 9))), (1, "source"))
        self.assertEqual(steps_fault(BOOK, 0, (("wish", 0), ("sum", ((0, 0),)), ("wish", 9))), (1, "number"))
        self.assertEqual(steps_fault(BOOK, 0, (("wish", 0), ("times", 0, 9)), most=1), (0, "degree"))

    def test_steps_with_places_changed(self):
        source = random.Random(511)
        kinds = {}
        for book in sample_books(512, 70) + [chain_book(4), chain_book(5)]:
            field = source.choice(FIELDS)
            steps = step_paper(book, field, book.names) or ()
            for _ in range(14):
                changed = steprows.spoiled_steps(source, book, steps)
                if source.random() < 0.3:
                    changed = steprows.spoiled_steps(source, book, changed)
                most = source.choice((None, None, 0, 1, 2, 3))
                found = steps_fault(book, field, changed, most=most)
                self.assertEqual(found, steprows.steps_fault(book, field, changed, most))
                kinds[found and found[1]] = kinds.get(found and found[1], 0) + 1
        self.assertEqual(set(kinds), {None, "wish", "source", "name", "number", "degree", "end"})


class Polys(unittest.TestCase):

    def test_ordinary_steps(self):
        for field in FIELDS:
            found = step_polys(BOOK, field, STEPS)
            self.assertIs(type(found), tuple)
            terms = [[((1,), 1), ((1, 2), -1)], [((), 1), ((1,), -1)], [((2,), 1)], [((1, 2), 1)], [((), 1)]]
            self.assertEqual(list(found), [Poly(field, row) for row in terms])
            self.assertTrue(all(poly.field == field for poly in found))
            self.assertEqual(step_polys(BOOK, field, ()), ())

    def test_steps_without_an_end_and_of_any_degree(self):
        for field in FIELDS:
            found = step_polys(BOOK, field, (("sum", ()), ("times", 0, 1), ("wish", 1), ("times", 2, 1), ("times", 2, 2)))
            self.assertEqual([poly.terms for poly in found][:2], [(), ()])
            self.assertEqual([poly.degree for poly in found], [0, 0, 1, 0, 2])
            self.assertEqual(found[3].terms, ())

    def test_faults(self):
        for step, kind in ((("wish", 3), "wish"), (("times", 5, 1), "source"), (("times", 0, 3), "name"),
                           (("sum", ((1, 0), (0, 1))), "number"), (("sum", ((1, 5),)), "source")):
            for field in FIELDS:
                self.assertEqual(told(step_polys, BOOK, field, STEPS + (step,)), raised("BadPaper", 5, kind))
                self.assertEqual(told(step_polys, BOOK, field, STEPS + (step, ("wish", 9))),
                                 raised("BadPaper", 5, kind))

    def test_steps_of_many_books(self):
        source = random.Random(513)
        for book in sample_books(514, 40) + [chain_book(5), full_book(4)]:
            for field in FIELDS:
                steps = step_paper(book, field, book.names)
                if steps is not None:
                    steps = steps + (("sum", tuple((source.randint(1, 500) * 210 + 1, k) for k in range(len(steps)))),)
                    found = [dict(poly.terms) for poly in step_polys(book, field, steps)]
                    self.assertEqual(found, steprows.polys_of(book, field, steps))


class Errors(unittest.TestCase):

    def test_too_many_names_go_ahead_of_fields(self):
        for names in (6, 7, 40):
            for book in (Book(names, []), Book(names, [()])):
                for field in (0, 5, 1, -7):
                    calls = [(step_polys, (("wish", 9),)), (steps_fault, ()), (step_paper, 0), (step_paper, GREAT),
                             (least_steps,), (steps_either, 1)]
                    for call, *rest in calls:
                        self.assertEqual(told(call, book, field, *rest), raised("TooLarge", names, 5))

    def test_fields_go_ahead_of_faults(self):
        for field in NO_FIELDS:
            calls = [(step_polys, (("wish", 9),)), (steps_fault, (("wish", 9),)), (step_paper, 0), (least_steps,),
                     (steps_either, GREAT)]
            for call, *rest in calls:
                self.assertEqual(told(call, BOOK, field, *rest), raised("BadField", field))


class Steps(unittest.TestCase):

    def check_paper(self, book, field, bound, steps):
        self.assertTrue(plain(steps))
        self.assertIsNone(steps_fault(book, field, steps, most=bound))
        self.assertIsNone(steprows.steps_fault(book, field, steps, bound))
        self.assertLessEqual(len(steps), 2000)
        for step in steps:
            if step[0] == "sum":
                self.assertLessEqual(len(step[1]), 500)
                if field:
                    self.assertTrue(all(1 <= number < field for number, _ in step[1]))
        if bound > 0 and steps != (("wish", 0),):
            used = [len(book.wishes[step[1]]) for step in steps if step[0] == "wish"]
            degrees = [poly.degree for poly in step_polys(book, field, steps)]
            high = max(used + [degrees[step[1]] + 1 for step in steps if step[0] == "times"])
            self.assertIsNone(steps_fault(book, field, steps, most=high))
            self.assertEqual(steps_fault(book, field, steps, most=high - 1)[1], "degree")

    def check(self, book, field, bound):
        """Whether there are steps; that there are no tellers besides follows, since both are checked."""
        steps, rows = step_paper(book, field, bound), tellers(book, field, bound)
        if steps is None:
            self.assertEqual(steps_either(book, field, bound), ("liar", rows))
            self.assertTrue(plain(rows))
            self.assertIsNone(tellers_fault(book, field, bound, rows))
            return False
        self.assertIsNone(rows)
        self.assertEqual(steps_either(book, field, bound), ("paper", steps))
        self.check_paper(book, field, bound, steps)
        return True

    def check_book(self, book, field):
        found = [bound for bound in bounds_of(book) if self.check(book, field, bound)]
        measure = least_steps(book, field)
        self.assertEqual(measure is None, kept(book))
        self.assertEqual(found, [] if measure is None else [b for b in bounds_of(book) if b >= measure])
        return measure

    def test_ordinary_books(self):
        for field in FIELDS:
            self.assertEqual(self.check_book(BOOK, field), 2)
            self.assertEqual(self.check_book(Book(1, [((1, 0),), ((1, 1),)]), field), 1)
            self.assertEqual(self.check_book(full_book(3), field), 3)
            self.assertEqual(self.check_book(Book(3, [(), ((1, 0),)]), field), 0)
            self.assertEqual(self.check_book(chain_book(5), field), 2)
            self.assertIsNone(self.check_book(Book(2, [((1, 0),), ((2, 0),)]), field))

    def test_the_wish_without_words(self):
        for field in FIELDS:
            for bound in (0, 1, GREAT):
                self.assertEqual(step_paper(Book(0, [()]), field, bound), (("wish", 0),))
                self.assertEqual(step_paper(Book(4, [(), ((1, 0),)]), field, bound), (("wish", 0),))
            self.assertIsNone(self.check_book(Book(0, []), field))

    def test_all_small_books(self):
        for at, book in enumerate(small_books()):
            self.check_book(book, FIELDS[at % 5])

    def test_books_by_chance(self):
        source = random.Random(515)
        measures = set()
        for book in sample_books(516, 40) + [chain_book(4), full_book(4)]:
            for field in FIELDS:
                measures.add(self.check_book(book, field))
        for _ in range(12):
            book = random_book(source, 4, source.randint(8, 30), 1, 3)
            measures.add(self.check_book(book, source.choice(FIELDS)))
        self.assertEqual(measures, {None, 0, 1, 2, 3, 4})

    def test_steps_exist_exactly_if_the_room_contains_one(self):
        source = random.Random(517)
        for book in sample_books(518, 40) + [random_book(source, 4, source.randint(6, 20), 1, 3) for _ in range(8)]:
            for field in FIELDS:
                for bound in (0, 1, 2, 3):
                    has_one = (((), 1),) in [poly.terms for poly in closed_room(book, field, bound)]
                    self.assertEqual(step_paper(book, field, bound) is not None, has_one)
                measure = least_sum(book, field)
                self.assertTrue(measure is None or least_steps(book, field) <= measure)

    def test_five_names(self):
        source = random.Random(519)
        books = [full_book(5), chain_book(5), Book(5, all_stands(5)[1:129]), Book(5, all_stands(5)[115:]), Book(5, [])]
        books += [random_book(source, 5, many, *wide) for many in (14, 30, 60, 200) for wide in ((1, 4), (2, 3))]
        for at, book in enumerate(books):
            self.check_book(book, 0)
            self.check_book(book, FIELDS[1 + at % 4])

    def test_books_that_need_every_multiple(self):
        # In the first book the multiples by the name 1 are needed, in the second one those of the first wishes.
        first = [((1, 0), (2, 0)), ((1, 0), (3, 0)), ((1, 1), (4, 1)), ((2, 0), (4, 0)), ((2, 1), (4, 0)),
                 ((2, 1), (4, 1)), ((3, 0), (4, 1))]
        second = [((1, 0), (2, 0), (4, 1)), ((1, 0), (2, 1)), ((1, 0), (3, 0), (4, 0)), ((1, 0), (4, 1)),
                  ((1, 1), (2, 0), (3, 1)), ((1, 1), (3, 0)), ((2, 0), (4, 0)), ((2, 1), (3, 0)), ((3, 1), (4, 0)),
                  ((3, 1), (4, 1))]
        for wishes in (first, second):
            for order in ((1, 2, 3, 4), (4, 3, 2, 1), (2, 3, 4, 1), (3, 1, 4, 2)):
                book = Book(4, [[(order[x - 1], v) for x, v in wish] for wish in wishes])
                self.assertEqual([self.check_book(book, field) for field in FIELDS], [2] * 5)

    def test_the_field_counts(self):
        # Of three answers an odd number of pairs are equal, so over 2 all six wishes add up to 1.
        wishes = [((1, 0), (2, 0)), ((1, 1), (2, 1)), ((2, 0), (3, 0)), ((2, 1), (3, 1)), ((1, 0), (3, 0)),
                  ((1, 1), (3, 1))]
        book = Book(3, wishes)
        self.assertEqual([self.check_book(book, field) for field in FIELDS], [2, 2, 2, 2, 2])
        # Four answers are different in a ring, which an odd number of times is right over 2 alone.
        ring = [((1, 0), (2, 0)), ((1, 1), (2, 1)), ((2, 0), (3, 0)), ((2, 1), (3, 1)), ((3, 0), (4, 0)),
                ((3, 1), (4, 1)), ((4, 0), (5, 0)), ((4, 1), (5, 1)), ((1, 0), (5, 0)), ((1, 1), (5, 1))]
        self.assertEqual([self.check_book(Book(5, ring), field) for field in FIELDS][1], 2)

    def test_equal_books_and_books_after_others(self):
        again = Book(2, [[(2, 0)], [(2, 1), (1, 0)], [(1, 1)], [(1, 1)]])
        for field in FIELDS:
            for bound in (0, 1, 2, GREAT):
                first = steps_either(BOOK, field, bound)
                for other in FIELDS:
                    steps_either(full_book(3), other, bound)
                self.assertEqual(steps_either(BOOK, field, bound), first)
                self.assertEqual(steps_either(again, field, bound), first)


if __name__ == "__main__":
    unittest.main()
