"""Points 111 to 115 and the interface of webs."""

import itertools
import random
import unittest

from papersorliars.books import Book
from papersorliars.webs import Web, web_book
from tests import webrows
from tests.helpers import NO_STANDS, all_fillings, all_stands, broken, plain, raised, told

THREE = Web(3, [(1, 2), (3, 2)], [0, 0, 1])
# Two ties between the places 1 and 2, one between 2 and 3, one between 3 and 1.
RING = Web(3, ((2, 1), (1, 2), (2, 3), (3, 1)), (1, 0, 0))
NO_PLACES = [(0,), (4,), (-1,), (1, 1), (2, 1), (1, 2, 3, 4), (1, 3, 2), (10 ** 40,)]


class Webs(unittest.TestCase):

    def test_attributes(self):
        self.assertEqual((THREE.places, THREE.ties, THREE.charges), (3, ((1, 2), (2, 3)), (0, 0, 1)))
        self.assertEqual((RING.places, RING.ties, RING.charges), (3, ((1, 2), (1, 2), (2, 3), (1, 3)), (1, 0, 0)))
        self.assertTrue(plain(RING.ties) and plain(RING.charges))
        self.assertEqual((Web.MOST_PLACES, Web.MOST_TIES), (7, 8))
        self.assertEqual((RING.MOST_PLACES, RING.MOST_TIES), (7, 8))
        self.assertEqual(Web(2, [[2, 1]], [0, 0]).ties, ((1, 2),))

    def test_arguments_stay(self):
        ties, charges = [(3, 1), (1, 2)], [1, 0, 1]
        web = Web(3, ties, charges)
        self.assertEqual((ties, charges), ([(3, 1), (1, 2)], [1, 0, 1]))
        ties.append((2, 3))
        charges[0] = 0
        self.assertEqual((web.ties, web.charges), (((1, 3), (1, 2)), (1, 0, 1)))

    def test_one_place(self):
        for charge in (0, 1):
            web = Web(1, [], [charge])
            self.assertEqual((web.places, web.ties, web.charges, web.odd), (1, (), (charge,), charge == 1))
            self.assertEqual(web.parts(()), ((1,),))
            self.assertEqual(web.rim((1,)), ())

    def test_seven_places_and_eight_ties(self):
        ties = [(k, k % 7 + 1) for k in range(1, 8)] + [(1, 4)]
        web = Web(7, ties, [1] * 7)
        self.assertEqual((len(web.ties), web.odd), (8, True))
        self.assertEqual(Web(2, [(1, 2), (2, 1)] * 4, (1, 1)).ties, ((1, 2),) * 8)

    def test_odd_webs(self):
        for charges in itertools.product((0, 1), repeat=3):
            self.assertIs(Web(3, [(1, 2), (2, 3)], charges).odd, sum(charges) % 2 == 1)

    def test_iteration(self):
        self.assertEqual(list(RING), [(1, 2), (1, 2), (2, 3), (1, 3)])
        self.assertEqual([tie for tie in Web(1, [], [0])], [])
        self.assertIn((2, 3), RING)

    def test_equal_and_different_webs(self):
        self.assertEqual(RING, Web(3, [(1, 2), (2, 1), (3, 2), (1, 3)], [1, 0, 0]))
        self.assertTrue(RING == Web(3, RING.ties, RING.charges))
        self.assertFalse(RING != Web(3, RING.ties, RING.charges))
        self.assertNotEqual(RING, Web(3, [(1, 2), (2, 3), (1, 2), (1, 3)], [1, 0, 0]))
        self.assertNotEqual(RING, Web(3, RING.ties, [0, 1, 0]))
        self.assertNotEqual(RING, Web(3, RING.ties[1:], RING.charges))
        self.assertNotEqual(Web(1, [], [0]), Web(1, [], [1]))
        self.assertNotEqual(Web(2, [(1, 2)], [0, 0]), Web(3, [(1, 2), (1, 3)], [0, 0, 0]))
        self.assertFalse(RING == 3)


class Kinds(unittest.TestCase):

    def test_places(self):
        for places in (0, 8, -1, 40, 10 ** 40):
            for ties, charges in (([], []), ([(1, 2)] * 9, [2]), ([(1, 1)], [0] * 8)):
                self.assertEqual(told(Web, places, ties, charges), raised("BadWeb", "places"))

    def test_ties(self):
        for ties in ([(1, 2)] * 9, [(1, 2)] * 20, [(1, 1)], [(1, 2), (2, 2)], [(0, 1)], [(1, 4)], [(4, 1)], [(-1, 2)],
                     [(1, 2), (2, 3), (3, 10 ** 40)]):
            for charges in ([0, 0, 0], [], [3], [0, 0, 2]):
                self.assertEqual(told(Web, 3, ties, charges), raised("BadWeb", "ties"))
        self.assertEqual(told(Web, 1, [(1, 1)], [0]), raised("BadWeb", "ties"))
        self.assertEqual(told(Web, 1, [(1, 2)], [0]), raised("BadWeb", "ties"))

    def test_charges(self):
        for charges in ([], [0], [0, 0], [0, 0, 0, 0], [0, 0, 2], [-1, 0, 0], [0, 10 ** 40, 1], [1, 1, 3]):
            for ties in ([(1, 2), (2, 3)], [(1, 2)], []):
                self.assertEqual(told(Web, 3, ties, charges), raised("BadWeb", "charges"))
        self.assertEqual(told(Web, 1, [], []), raised("BadWeb", "charges"))

    def test_joined(self):
        for places, ties in ((2, []), (3, [(1, 2)]), (3, [(1, 2), (2, 1)]), (4, [(1, 2), (3, 4)]), (7, [(1, 2)] * 8),
                             (5, [(1, 2), (2, 3), (1, 3), (4, 5)])):
            self.assertEqual(told(Web, places, ties, [0] * places), raised("BadWeb", "joined"))

    def test_all_webs_of_three_places(self):
        pairs = list(itertools.product(range(4), repeat=2))
        for first in pairs:
            for second in pairs:
                joins = [set(tie) for tie in (first, second)]
                kind = None
                if any(len(join) != 2 or 0 in join for join in joins):
                    kind = "ties"
                elif joins[0] | joins[1] != {1, 2, 3}:
                    kind = "joined"
                found = told(Web, 3, [first, second], [0, 1, 0])
                self.assertEqual(found if kind else None, raised("BadWeb", kind) if kind else None)


class Methods(unittest.TestCase):

    def test_rims(self):
        self.assertEqual(RING.rim(()), ())
        self.assertEqual(RING.rim((1, 2, 3)), ())
        self.assertEqual(RING.rim((1,)), (1, 2, 4))
        self.assertEqual(RING.rim((2,)), (1, 2, 3))
        self.assertEqual(RING.rim((1, 2)), (3, 4))
        self.assertEqual(RING.rim((3,)), (3, 4))

    def test_parts(self):
        self.assertEqual(RING.parts(()), ((1, 2, 3),))
        self.assertEqual(RING.parts((1,)), ((1, 2, 3),))
        self.assertEqual(RING.parts((3, 4)), ((1, 2), (3,)))
        self.assertEqual(RING.parts((1, 2, 4)), ((1,), (2, 3)))
        self.assertEqual(RING.parts((1, 2, 3)), ((1, 3), (2,)))
        self.assertEqual(RING.parts((1, 2, 3, 4)), ((1,), (2,), (3,)))

    def test_rows_that_are_not_of_the_web(self):
        for row in NO_PLACES:
            self.assertEqual(told(THREE.rim, row), raised("BadOrder", row))
        for row in [(0,), (3,), (-1,), (1, 1), (2, 1), (1, 2, 3), (10 ** 40,)]:
            self.assertEqual(told(THREE.parts, row), raised("BadOrder", row))
            self.assertEqual(told(THREE.moved, row), raised("BadOrder", row))
        one = Web(1, [], [1])
        self.assertEqual(told(one.rim, (2,)), raised("BadOrder", (2,)))
        self.assertEqual(told(one.parts, (1,)), raised("BadOrder", (1,)))
        self.assertEqual(told(one.moved, (1,)), raised("BadOrder", (1,)))

    def test_rims_and_parts_of_many_webs(self):
        source = random.Random(571)
        for web in webrows.some_webs(572, 60):
            for _ in range(12):
                places = tuple(p for p in range(1, web.places + 1) if source.random() < 0.5)
                self.assertEqual(web.rim(places), webrows.rim(web, places))
                held = tuple(x for x in webrows.all_ties(web) if source.random() < 0.6)
                self.assertEqual(web.parts(held), webrows.parts(web, held))
                self.assertTrue(plain(web.parts(held)) and plain(web.rim(places)))

    def test_odd_parts(self):
        self.assertEqual(RING.odd_parts(()), ((1, 2, 3),))
        self.assertEqual(RING.odd_parts(((3, 0), (4, 0))), ((1, 2),))
        self.assertEqual(RING.odd_parts(((3, 1), (4, 0))), ((3,),))
        self.assertEqual(RING.odd_parts(((3, 1), (4, 1))), ((1, 2),))
        # A held tie within a part does not count.
        self.assertEqual(RING.odd_parts(((1, 1),)), ((1, 2, 3),))
        self.assertEqual(RING.odd_parts(((1, 1), (2, 0), (3, 0), (4, 0))), ((2,),))
        self.assertEqual(RING.odd_parts(((1, 1), (2, 1), (3, 0), (4, 1))), ((3,),))
        self.assertEqual(RING.odd_parts(((1, 1), (2, 1), (3, 1), (4, 0))), ((1,), (2,), (3,)))
        self.assertEqual(Web(2, [(1, 2)], [1, 1]).odd_parts(()), ())

    def test_odd_parts_of_many_webs(self):
        source = random.Random(573)
        for web in webrows.some_webs(574, 50):
            for stand in source.sample(all_stands(len(web.ties)), min(20, 3 ** len(web.ties))):
                answers = dict(stand)
                expected = []
                for part in webrows.parts(web, tuple(answers)):
                    charge = sum(web.charges[p - 1] for p in part)
                    if (charge + sum(answers[x] for x in webrows.rim(web, part))) % 2:
                        expected.append(part)
                self.assertEqual(web.odd_parts(stand), tuple(expected))
                self.assertEqual(len(expected) % 2, web.odd)

    def test_stands_that_are_none(self):
        web = Web(3, [(1, 2), (2, 3), (1, 3)], [0, 0, 1])
        for stand in NO_STANDS:
            self.assertEqual(told(web.odd_parts, stand), raised("BadStand", stand))
        self.assertEqual(told(Web(1, [], [1]).odd_parts, ((1, 0),)), raised("BadStand", ((1, 0),)))

    def test_moved_webs(self):
        self.assertEqual(RING.moved(()), RING)
        self.assertEqual(RING.moved((1,)), Web(3, RING.ties, (0, 1, 0)))
        self.assertEqual(RING.moved((1, 2)), RING)
        self.assertEqual(RING.moved((3, 4)), Web(3, RING.ties, (0, 1, 0)))
        self.assertEqual(RING.moved((1, 3)), Web(3, RING.ties, (0, 0, 1)))
        self.assertEqual(RING.charges, (1, 0, 0))
        source = random.Random(575)
        for web in webrows.some_webs(576, 40):
            ties = tuple(x for x in webrows.all_ties(web) if source.random() < 0.5)
            found = web.moved(ties)
            charges = [(c + sum(p in web.ties[x - 1] for x in ties)) % 2 for p, c in enumerate(web.charges, 1)]
            self.assertEqual(found, Web(web.places, web.ties, charges))
            self.assertEqual((found.odd, found.moved(ties)), (web.odd, web))


class Books(unittest.TestCase):

    def test_the_example(self):
        wishes = (((1, 0),), ((1, 0), (2, 1)), ((1, 1), (2, 0)), ((2, 1),))
        self.assertEqual(web_book(THREE), Book(2, wishes))
        self.assertEqual(web_book(THREE).wishes, wishes)

    def test_one_place(self):
        self.assertEqual(web_book(Web(1, [], [1])), Book(0, [()]))
        self.assertEqual(web_book(Web(1, [], [0])), Book(0, []))

    def test_places_with_eight_ties(self):
        # Both places have the same ties and the same charge, so they have the same wishes.
        for charge in (0, 1):
            book = web_book(Web(2, [(1, 2)] * 8, [charge, charge]))
            self.assertEqual((book.names, len(book.wishes)), (8, 128))
        for charges in ((0, 1), (1, 0)):
            self.assertEqual(told(web_book, Web(2, [(1, 2)] * 8, charges)), raised("TooMany", 256))
        # Eight ties of one place: 128 wishes, and those of the other places.
        web = Web(3, [(1, 2)] * 4 + [(1, 3)] * 4, [0, 1, 0])
        self.assertEqual(told(web_book, web), raised("TooMany", 128 + 8 + 8))
        web = Web(5, [(1, k) for k in (2, 3, 4, 5)] * 2, [1] * 5)
        self.assertEqual(told(web_book, web), raised("TooMany", 128 + 4 * 2))

    def test_wishes_of_many_webs(self):
        for web in webrows.some_webs(577, 60):
            wishes = {tuple((x, 1 - v) for x, v in row) for place in range(1, web.places + 1)
                      for row in webrows.wrong_answers(web, place)}
            found = told(web_book, web)
            if len(wishes) > 128:
                self.assertEqual(found, raised("TooMany", len(wishes)))
            else:
                self.assertEqual(found, Book(len(web.ties), list(wishes)))

    def test_kept_exactly_if_the_web_is_even(self):
        for web in webrows.some_webs(578, 50):
            if len(web.ties) <= 6:
                book = web_book(web)
                is_kept = any(not broken(book, filling) for filling in all_fillings(book.names))
                self.assertEqual(is_kept, not web.odd)


if __name__ == "__main__":
    unittest.main()
