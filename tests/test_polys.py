"""Points 77 to 80 and the interface of polys."""

import itertools
import random
import unittest

from papersorliars.polys import Poly, stand_poly, wish_poly
from tests import algebra
from tests.algebra import FIELDS, NO_FIELDS
from tests.helpers import NO_STANDS, all_fillings, all_stands, plain, raised, random_wish, told

NO_PRODUCTS = [(0,), (-1,), (1, 1), (2, 1), (0, 1), (1, 3, 2), (1, 2, 2), (-2, 3), (5, 5, 6), (3, 10 ** 40, 4)]


def random_terms(source, names, many=6):
    rows = algebra.products(names, names)
    return [(source.choice(rows), source.randint(-9, 9)) for _ in range(source.randint(0, many))]


def terms_of(field, pairs):
    """The terms in graded order, by the words of point 78."""
    sums = {}
    for row, number in pairs:
        sums[row] = sums.get(row, 0) + number
    return tuple(sorted(algebra.clean(field, sums).items(), key=lambda pair: algebra.graded(pair[0])))


def graded_items(terms):
    return tuple(sorted(terms.items(), key=lambda pair: algebra.graded(pair[0])))


class Polys(unittest.TestCase):

    def test_an_ordinary_polynomial(self):
        poly = Poly(0, [((1, 2), 3), ((), -2), ((2,), 1), ((1,), 4)])
        self.assertEqual(poly.field, 0)
        self.assertEqual(poly.terms, (((), -2), ((1,), 4), ((2,), 1), ((1, 2), 3)))
        self.assertEqual(poly.degree, 2)
        self.assertTrue(plain(poly.terms))

    def test_lists_and_tuples_in_any_order(self):
        pairs = [((2,), 1), ((), 5), ((1, 2), 2), ((2,), 3)]
        for field in FIELDS:
            for row in itertools.permutations(pairs):
                self.assertEqual(Poly(field, row).terms, terms_of(field, pairs))
                self.assertEqual(Poly(field, list(row)).terms, terms_of(field, pairs))

    def test_the_graded_order(self):
        rows = [(), (1,), (3,), (10,), (1, 2), (1, 10), (2, 3), (1, 2, 3), (9, 10, 11), (1, 2, 3, 4)]
        for field in FIELDS:
            found = Poly(field, [(row, 1) for row in rows[::-1]])
            self.assertEqual(found.terms, tuple((row, 1) for row in rows))

    def test_fields(self):
        for field in NO_FIELDS:
            self.assertEqual(told(Poly, field, []), raised("BadField", field))
            self.assertEqual(told(Poly, field, [((2, 1), 1)]), raised("BadField", field))
        for field in FIELDS:
            self.assertEqual(Poly(field, []).field, field)

    def test_rows_that_are_no_products(self):
        for field in FIELDS:
            for row in NO_PRODUCTS:
                self.assertEqual(told(Poly, field, [((1,), 1), (row, 0), ((2, 1), 1)]), raised("BadOrder", row))
                self.assertEqual(told(Poly, field, ((row, 1),)), raised("BadOrder", row))
        self.assertEqual(Poly(0, [((10 ** 40,), 1)]).terms, (((10 ** 40,), 1),))

    def test_numbers_in_the_field(self):
        for number in (-211, -7, -1, 0, 1, 2, 3, 4, 5, 6, 7, 8, 209, 210, 10 ** 40 + 1):
            for field in FIELDS:
                expected = number if field == 0 else number % field
                terms = (((1,), expected),) if expected else ()
                self.assertEqual(Poly(field, [((1,), number)]).terms, terms)

    def test_equal_products(self):
        for field in FIELDS:
            self.assertEqual(Poly(field, [((1,), 3), ((2,), 1), ((1,), -3)]).terms, (((2,), 1),))
            self.assertEqual(Poly(field, [((), 1), ((), 1)]).terms, () if field == 2 else (((), 2),))
        self.assertEqual(Poly(5, [((1,), 2), ((1,), 3)]).terms, ())
        self.assertEqual(Poly(0, [((1,), 2), ((1,), 3)]).terms, (((1,), 5),))
        self.assertEqual(Poly(3, [((1,), 2), ((1,), 2), ((1,), 3)]).terms, (((1,), 1),))

    def test_degrees(self):
        for field in FIELDS:
            self.assertEqual(Poly(field, []).degree, 0)
            self.assertEqual(Poly(field, [((), 1)]).degree, 0)
            self.assertEqual(Poly(field, [((7,), 1), ((), 1)]).degree, 1)
            self.assertEqual(Poly(field, [((1, 5, 6), 1), ((2, 3), 1)]).degree, 3)
            # A term whose number is 0 in the field does not count.
            self.assertEqual(Poly(field, [((1, 2), field), ((3,), 1)]).degree, 1)

    def test_numbers_of_products(self):
        poly = Poly(5, [((), 7), ((1, 2), -1), ((3,), 5)])
        self.assertEqual([poly.number(row) for row in ((), (1, 2), (3,), (1,), (1, 2, 3))], [2, 4, 0, 0, 0])
        self.assertEqual([row in poly for row in ((), (1, 2), (3,), (1,), (1, 2, 3))], [True, True] + [False] * 3)
        self.assertEqual([row in Poly(0, []) for row in ((), (1,))], [False, False])
        self.assertEqual(Poly(0, []).number(()), 0)

    def test_iteration(self):
        poly = Poly(0, [((2,), 3), ((), 1)])
        self.assertEqual(list(poly), [((), 1), ((2,), 3)])
        self.assertEqual([list(poly), list(poly)], [list(poly.terms)] * 2)
        self.assertEqual(list(Poly(7, [])), [])

    def test_values_at_stands(self):
        poly = Poly(0, [((), 10), ((1,), 1), ((2,), 20), ((1, 3), 300)])
        for stand, expected in (((), 10), (((1, 1),), 11), (((1, 0),), 10), (((1, 0), (2, 1)), 30),
                                (((3, 1),), 10), (((1, 1), (3, 1)), 311), (((1, 1), (2, 1), (3, 1)), 331),
                                (((4, 1),), 10), (((1, 1), (2, 0), (3, 0), (9, 1)), 11)):
            self.assertEqual(poly(stand), expected)
        self.assertEqual(Poly(3, [((), 2), ((1,), 2)])(((1, 1),)), 1)
        self.assertEqual(Poly(2, [((), 1), ((1,), 1)])(((1, 1),)), 0)
        self.assertEqual(Poly(7, [])(((1, 1),)), 0)

    def test_values_by_chance(self):
        source = random.Random(301)
        for _ in range(60):
            field = source.choice(FIELDS)
            pairs = random_terms(source, 4)
            poly = Poly(field, pairs)
            for stand in all_stands(4):
                ones = [x for x, v in stand if v == 1]
                self.assertEqual(poly(stand), algebra.value(field, dict(poly.terms), ones))


class Operators(unittest.TestCase):

    def check(self, poly, field, terms):
        self.assertIs(type(poly), Poly)
        self.assertEqual((poly.field, poly.terms), (field, graded_items(terms)))
        self.assertTrue(plain(poly.terms))

    def test_there_are_no_squares(self):
        for field in FIELDS:
            one = Poly(field, [((1,), 1)])
            self.assertEqual((one * one).terms, (((1,), 1),))
            self.assertEqual((Poly(field, [((1, 2), 1)]) * Poly(field, [((2, 3), 1)])).terms, (((1, 2, 3), 1),))
            less = Poly(field, [((), 1), ((1,), -1)])
            self.assertEqual((less * less).terms, less.terms)
            self.assertEqual((less * one).terms, ())

    def test_polynomials_by_chance(self):
        source = random.Random(302)
        for _ in range(300):
            field = source.choice(FIELDS)
            first, second = Poly(field, random_terms(source, 4)), Poly(field, random_terms(source, 4))
            one, two = dict(first.terms), dict(second.terms)
            before = (first.terms, second.terms)
            self.check(first + second, field, algebra.plus(field, one, two))
            self.check(first - second, field, algebra.plus(field, one, two, -1))
            self.check(first * second, field, algebra.multiplied(field, one, two))
            self.check(-first, field, algebra.plus(field, {}, one, -1))
            self.check(first - first, field, {})
            self.assertEqual((first.terms, second.terms), before)
            self.assertEqual((first == second), one == two)
            for filling in all_fillings(4):
                both = (first(filling), second(filling))
                self.assertEqual((first * second)(filling), algebra.written(field, both[0] * both[1]))
                self.assertEqual((first + second)(filling), algebra.written(field, sum(both)))

    def test_fields_that_differ(self):
        for field in FIELDS:
            for other in FIELDS:
                first, second = Poly(field, [((1,), 1)]), Poly(other, [((1,), 1)])
                deeds = [lambda: first + second, lambda: first - second, lambda: first * second]
                for deed in deeds:
                    if field == other:
                        self.assertIs(type(deed()), Poly)
                    else:
                        self.assertEqual(told(deed), raised("BadField", other))
                self.assertEqual(first == second, field == other)
                self.assertEqual(first != second, field != other)

    def test_equality(self):
        self.assertTrue(Poly(5, [((1,), 7), ((), 5)]) == Poly(5, [((1,), 2)]))
        self.assertFalse(Poly(0, [((1,), 7)]) == Poly(0, [((1,), 2)]))
        self.assertFalse(Poly(0, [((1,), 2)]) == Poly(0, [((2,), 2)]))
        self.assertFalse(Poly(0, []) == Poly(2, []))
        self.assertTrue(Poly(3, [((1,), 3)]) == Poly(3, []))
        self.assertFalse(Poly(2, [((1,), 1)]) == Poly(2, [((1,), 1), ((), 1)]))

    def test_great_numbers(self):
        great = Poly(0, [((1,), 10 ** 150), ((), -1)])
        self.assertEqual((great * great).terms, (((), 1), ((1,), 10 ** 300 - 2 * 10 ** 150)))
        self.assertEqual((Poly(7, [((1,), 10 ** 150)]) + Poly(7, [((1,), 1)])).terms,
                         (((1,), (10 ** 150 + 1) % 7),))


class Rows(unittest.TestCase):

    def test_the_row_without_pairs(self):
        for field in FIELDS:
            for call in (stand_poly, wish_poly):
                self.assertEqual((call(field, ()).field, call(field, ()).terms), (field, (((), 1),)))

    def test_ordinary_rows(self):
        self.assertEqual(stand_poly(0, ((1, 1),)).terms, (((1,), 1),))
        self.assertEqual(stand_poly(0, ((1, 0),)).terms, (((), 1), ((1,), -1)))
        self.assertEqual(stand_poly(3, ((1, 0),)).terms, (((), 1), ((1,), 2)))
        self.assertEqual(wish_poly(0, ((1, 1),)).terms, (((), 1), ((1,), -1)))
        self.assertEqual(wish_poly(0, ((1, 0), (2, 1))).terms, (((1,), 1), ((1, 2), -1)))
        self.assertEqual(wish_poly(2, ((3, 1), (5, 1))).terms, (((), 1), ((3,), 1), ((5,), 1), ((3, 5), 1)))

    def test_all_rows_of_four_names(self):
        for field in FIELDS:
            for row in all_stands(4):
                stand, wish = stand_poly(field, row), wish_poly(field, row)
                self.assertIs(type(stand), Poly)
                self.assertEqual(stand.terms, graded_items(algebra.stand_terms(field, row)))
                self.assertEqual(wish.terms, graded_items(algebra.wish_terms(field, row)))
                self.assertEqual((stand.field, wish.field), (field, field))
                for filling in all_fillings(4):
                    self.assertEqual(stand(filling), int(set(row) <= set(filling)))
                    self.assertEqual(wish(filling), int(all((x, 1 - v) in filling for x, v in row)))

    def test_ten_pairs(self):
        source = random.Random(303)
        rows = [tuple((x, v) for x in range(1, 11)) for v in (0, 1)]
        rows += [tuple((3 * x, source.randint(0, 1)) for x in range(1, 11)), random_wish(source, 40, 10, 10)]
        for field in FIELDS:
            for row in rows:
                self.assertEqual(stand_poly(field, row).terms, graded_items(algebra.stand_terms(field, row)))
                self.assertEqual(wish_poly(field, row).terms, graded_items(algebra.wish_terms(field, row)))

    def test_eleven_pairs(self):
        right = tuple((x, 0) for x in range(1, 12))
        wrong = ((1, 0),) * 11
        longer = tuple((x, 1) for x in range(1, 41))
        for call in (stand_poly, wish_poly):
            for field in FIELDS + NO_FIELDS:
                self.assertEqual(told(call, field, right), raised("TooLarge", 11, 10))
                self.assertEqual(told(call, field, wrong), raised("TooLarge", 11, 10))
                self.assertEqual(told(call, field, longer), raised("TooLarge", 40, 10))

    def test_fields_go_ahead_of_rows(self):
        for call in (stand_poly, wish_poly):
            for field in NO_FIELDS:
                for row in ((), ((1, 0),), ((1, 2),), ((2, 0), (1, 0)), ((1, 0),) * 10):
                    self.assertEqual(told(call, field, row), raised("BadField", field))

    def test_rows_that_are_not_right(self):
        names_do_not_count = [((4, 0),), ((1, 0), (2, 1), (4, 1)), ((10 ** 40, 0),)]
        for call in (stand_poly, wish_poly):
            for field in FIELDS:
                for row in NO_STANDS + [((1, 0),) * 10]:
                    if row in names_do_not_count:
                        self.assertIs(type(call(field, row)), Poly)
                    else:
                        self.assertEqual(told(call, field, row), raised("BadStand", row))


if __name__ == "__main__":
    unittest.main()
