"""Points 120 and 122 and the interface of webpapers."""

import random
import unittest

from papersorliars.halvings import halving, least_measure, plan_measure
from papersorliars.kept import keep_liar_fault, least_kept
from papersorliars.refuges import refuge
from papersorliars.sums import sum_fault
from papersorliars.webpapers import plan_lines, refuge_liar, web_either, web_sum
from papersorliars.webs import Web, web_book
from tests import webrows
from tests.helpers import all_stands, plain, raised, told
from tests.rowpapers import rows_fault, width_of

GREAT = 10 ** 40 - 1
RING = Web(3, ((2, 1), (1, 2), (2, 3), (3, 1)), (1, 0, 0))
EVEN = Web(3, RING.ties, (1, 1, 0))
PLAN = ("halves", ("place", 1), ("halves", ("place", 2), ("place", 3)))
# All wishes of both places are different, and they are 256.
WIDE = Web(2, [(1, 2)] * 8, [0, 1])
# Eight ties between three places: 32 wishes of the places 1 and 3 each, and 128 of the place 2.
MANY = Web(3, [(1, 2)] * 4 + [(2, 3)] * 4, [0, 1, 0])


def too_many(web):
    """The number of wishes of the book of the web, if these are too many, or None."""
    wishes = {tuple((x, 1 - v) for x, v in row) for place in range(1, web.places + 1)
              for row in webrows.wrong_answers(web, place)}
    return len(wishes) if len(wishes) > 128 else None


def breaks_place(web, stand):
    """Whether the stand breaks a wish of the book of the web."""
    answers = dict(stand)
    for place in range(1, web.places + 1):
        ties = webrows.rim(web, (place,))
        if all(x in answers for x in ties) and sum(answers[x] for x in ties) % 2 != web.charges[place - 1]:
            return True
    return False


def keep_fault(web, bound, stands):
    """Whether the row is an object against the bound by the words of point 59, also for a book that cannot be made."""
    names, present = len(web.ties), set(stands)
    if list(stands) != sorted(present) or () not in present:
        return True
    for stand in stands:
        if len(stand) > bound + 1 or breaks_place(web, stand):
            return True
        if any(tuple(pair for pair in stand if pair != less) not in present for less in stand):
            return True
        for x in range(1, names + 1):
            if len(stand) <= bound and x not in dict(stand):
                if not any(tuple(sorted(stand + ((x, v),))) in present for v in (0, 1)):
                    return True
    return False


class Lines(unittest.TestCase):

    def check(self, web, plan):
        rows = plan_lines(web, plan)
        self.assertTrue(plain(rows))
        self.assertIsNone(rows_fault(web_book(web), rows, (), max(webrows.measure_of(web, plan) - 1, 0)))
        self.assertLessEqual(len(rows), 4000)
        return rows

    def test_ordinary_webs(self):
        rows = self.check(RING, PLAN)
        self.assertLessEqual(width_of(rows), 3)
        self.assertEqual(self.check(Web(1, [], [1]), ("place", 1)), ())
        rows = self.check(Web(2, [(1, 2)], [0, 1]), ("halves", ("place", 2), ("place", 1)))
        self.assertEqual(rows, (((), 1, ("wish", 1), ("wish", 0)),))

    def test_webs_of_two_places(self):
        for many in range(1, 8):
            for charges in ((0, 1), (1, 0)):
                rows = self.check(Web(2, [(1, 2)] * many, charges), ("halves", ("place", 1), ("place", 2)))
                self.assertEqual((len(rows), width_of(rows)), (2 ** many - 1, many - 1))

    def test_best_plans_of_many_webs(self):
        for web in webrows.some_webs(601, 120, odd=1):
            if too_many(web) is None:
                least = least_measure(web)
                plan = halving(web, least)
                rows = self.check(web, plan)
                if len(web.ties) <= 6:
                    self.assertLessEqual(least_kept(web_book(web)), width_of(rows))

    def test_all_plans(self):
        source = random.Random(602)
        high = 0
        for web in webrows.some_webs(603, 120, odd=1):
            if too_many(web) is None:
                for _ in range(6):
                    rows = self.check(web, webrows.random_plan(source, range(1, web.places + 1)))
                    high = max(high, len(rows))
        self.assertGreater(high, 100)

    def test_the_order_of_errors(self):
        bad = ("place", 1)
        self.assertEqual(told(plan_lines, EVEN, PLAN), raised("BadWeb", "even"))
        self.assertEqual(told(plan_lines, EVEN, bad), raised("BadWeb", "even"))
        even = Web(2, WIDE.ties, (1, 1)), Web(3, MANY.ties, (0, 0, 0))
        for web in even:
            self.assertEqual(told(plan_lines, web, bad), raised("BadWeb", "even"))
        self.assertEqual(told(plan_lines, WIDE, bad), raised("TooMany", 256))
        self.assertEqual(told(plan_lines, WIDE, ("halves", ("place", 1), ("place", 2))), raised("TooMany", 256))
        self.assertEqual(told(plan_lines, MANY, bad), raised("TooMany", too_many(MANY)))
        self.assertEqual(told(plan_lines, RING, bad), raised("BadPaper", (), "missing"))
        self.assertEqual(told(plan_lines, RING, ("halves", bad, bad)), raised("BadPaper", (1,), "again"))
        self.assertEqual(told(plan_lines, RING, ("halves", bad, ("place", 4))), raised("BadPaper", (1,), "place"))


class Objects(unittest.TestCase):

    def expected(self, web, bound, rows):
        found = []
        for stand in all_stands(len(web.ties), bound + 1):
            parts = []
            for part in webrows.parts(web, tuple(x for x, _ in stand)):
                rim = webrows.rim(web, part)
                if (sum(web.charges[p - 1] for p in part) + sum(v for x, v in stand if x in rim)) % 2:
                    parts.append(part)
            if len(parts) == 1 and (tuple(x for x, _ in stand), parts[0]) in rows:
                found.append(stand)
        return tuple(found)

    def check(self, web, bound, rows):
        found = refuge_liar(web, bound, rows)
        self.assertTrue(plain(found))
        self.assertFalse(keep_fault(web, bound, found))
        if too_many(web) is None:
            self.assertIsNone(keep_liar_fault(web_book(web), bound, found))
        return found

    def test_ordinary_webs(self):
        web = Web(2, [(1, 2), (1, 2)], [0, 1])
        stands = ((), ((1, 0),), ((1, 1),), ((2, 0),), ((2, 1),))
        self.assertEqual(self.check(web, 0, refuge(web, 0)), stands)
        for bound in (0, 1, 2):
            self.check(RING, bound, refuge(RING, bound))

    def test_many_webs(self):
        for at, web in enumerate(webrows.some_webs(604, 80, odd=1)):
            for bound in range(least_measure(web) - 1):
                found = self.check(web, bound, refuge(web, bound))
                if at % 3 == 0:
                    self.assertEqual(found, self.expected(web, bound, refuge(web, bound)))

    def test_books_with_too_many_wishes(self):
        for web in (WIDE, MANY, Web(3, MANY.ties, [1, 1, 1])):
            for bound in range(least_measure(web) - 1):
                found = self.check(web, bound, refuge(web, bound))
                self.assertEqual(found, self.expected(web, bound, refuge(web, bound)))

    def test_the_order_of_errors(self):
        whole = (1, 2, 3)
        for rows in ((), refuge(EVEN, 0), (((9,), whole),)):
            self.assertEqual(told(refuge_liar, EVEN, 0, rows), raised("BadWeb", "even"))
        self.assertEqual(told(refuge_liar, RING, 0, ()), raised("BadLiar", ((), whole), "empty"))
        self.assertEqual(told(refuge_liar, RING, 0, (((), whole),)), raised("BadLiar", ((), whole), "caught"))
        self.assertEqual(told(refuge_liar, RING, 0, (((9,), whole),)), raised("BadLiar", ((9,), whole), "ties"))
        self.assertEqual(told(refuge_liar, WIDE, 0, ()), raised("BadLiar", ((), (1, 2)), "empty"))
        self.assertEqual(told(refuge_liar, Web(1, [], [1]), 0, ()), raised("BadLiar", ((), (1,)), "empty"))


class Sums(unittest.TestCase):

    def test_ordinary_webs(self):
        self.assertEqual(web_sum(Web(1, [], [1])), (1, ((1, (), 0),)))
        self.assertEqual(web_sum(Web(2, [(1, 2)], [1, 0])), (1, ((1, (), 0), (1, (), 1))))

    def test_many_webs(self):
        for web in webrows.some_webs(605, 120, odd=1):
            many = too_many(web)
            if many is not None:
                self.assertEqual(told(web_sum, web), raised("TooMany", many))
                continue
            book = web_book(web)
            paper = web_sum(web)
            self.assertTrue(plain(paper))
            self.assertEqual(paper, (1, tuple((1, (), index) for index in range(len(book.wishes)))))
            if book.names <= 5:
                self.assertIsNone(sum_fault(book, 2, paper))

    def test_errors(self):
        self.assertEqual(told(web_sum, EVEN), raised("BadWeb", "even"))
        self.assertEqual(told(web_sum, Web(3, MANY.ties, (0, 0, 0))), raised("BadWeb", "even"))
        self.assertEqual(told(web_sum, WIDE), raised("TooMany", 256))


class Either(unittest.TestCase):

    def test_many_webs(self):
        for web in webrows.some_webs(606, 90):
            least = webrows.least_measure(web)
            for bound in (*range(len(web.ties) + 2), GREAT):
                kind, thing = web_either(web, bound)
                self.assertEqual(kind, "paper" if least <= bound + 1 else "liar")
                self.assertTrue(plain(thing))
                if kind == "paper":
                    self.assertIsNone(webrows.plan_fault(web, thing))
                    self.assertLessEqual(plan_measure(web, thing), bound + 1)
                else:
                    self.assertEqual(thing, refuge(web, bound))
                self.assertEqual(web_either(web, bound), (kind, thing))

    def test_webs_of_one_place(self):
        for charge in (0, 1):
            for bound in (0, GREAT):
                self.assertEqual(web_either(Web(1, [], [charge]), bound), ("paper", ("place", 1)))


if __name__ == "__main__":
    unittest.main()
