"""Points 3 and 4 and the interface of stands."""

import itertools
import unittest

from papersorliars.stands import check_stand, denied, stands_of
from tests.helpers import NO_STANDS, all_stands, plain, raised, right_row, told


class CheckStand(unittest.TestCase):

    def test_right_rows_return_none(self):
        for stand in all_stands(3):
            self.assertIsNone(check_stand(3, stand))
        self.assertIsNone(check_stand(0, ()))
        self.assertIsNone(check_stand(40, ((40, 1),)))
        self.assertIsNone(check_stand(40, tuple((x, x % 2) for x in range(1, 41))))

    def test_rows_that_are_none_are_told(self):
        for stand in NO_STANDS:
            self.assertEqual(told(check_stand, 3, stand), raised("BadStand", stand))
        self.assertEqual(told(check_stand, 0, ((1, 0),)), raised("BadStand", ((1, 0),)))
        self.assertEqual(told(check_stand, 40, ((41, 0),)), raised("BadStand", ((41, 0),)))

    def test_all_short_rows_of_pairs(self):
        pairs = list(itertools.product(range(-1, 4), (-1, 0, 1, 2)))
        for many in range(4):
            for row in itertools.product(pairs[::2] if many == 3 else pairs, repeat=many):
                expected = None if right_row(2, row) else raised("BadStand", row)
                self.assertEqual(told(check_stand, 2, row), expected)


class Denied(unittest.TestCase):

    def test_each_value_is_the_other_one(self):
        self.assertEqual(denied(()), ())
        self.assertEqual(denied(((1, 0), (2, 1))), ((1, 1), (2, 0)))
        self.assertEqual(denied(((7, 1), (40, 0))), ((7, 0), (40, 1)))

    def test_the_order_of_the_pairs_stays(self):
        self.assertEqual(denied(((2, 1), (1, 0), (2, 1))), ((2, 0), (1, 1), (2, 0)))

    def test_twice_denied_is_the_row_itself(self):
        for stand in all_stands(3):
            self.assertEqual(denied(denied(stand)), stand)
            self.assertTrue(plain(denied(stand)))


class StandsOf(unittest.TestCase):

    def test_all_stands_ascending(self):
        for names in range(5):
            for most in range(7):
                found = list(stands_of(names, most))
                self.assertEqual(found, all_stands(names, most), (names, most))
                self.assertTrue(plain(tuple(found)))

    def test_two_names(self):
        self.assertEqual(list(stands_of(2, 1)), [(), ((1, 0),), ((1, 1),), ((2, 0),), ((2, 1),)])
        self.assertEqual(list(stands_of(1, 10 ** 40)), [(), ((1, 0),), ((1, 1),)])
        self.assertEqual(list(stands_of(0, 3)), [()])
        self.assertEqual(list(stands_of(3, 0)), [()])

    def test_the_first_stands_over_forty_names_come_at_once(self):
        first = list(itertools.islice(stands_of(40, 40), 45))
        expected = [tuple((x, 0) for x in range(1, many + 1)) for many in range(41)]
        self.assertEqual(first[:41], expected)
        self.assertEqual(first[41], expected[39] + ((40, 1),))
        self.assertEqual(first[42], expected[38] + ((39, 1),))

    def test_the_number_of_stands_of_at_most_two_answers_over_forty_names(self):
        found = list(stands_of(40, 2))
        self.assertEqual(len(found), 1 + 80 + 4 * 780)
        self.assertEqual(found, sorted(set(found)))

    def test_it_is_iterated_anew_by_each_call(self):
        self.assertEqual(list(stands_of(3, 2)), list(stands_of(3, 2)))


if __name__ == "__main__":
    unittest.main()
