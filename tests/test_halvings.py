"""Points 116 and 117 and the interface of halvings."""

import random
import unittest

from papersorliars.halvings import halving, least_measure, plan_fault, plan_measure
from papersorliars.webs import Web
from tests import webrows
from tests.helpers import plain, raised, told

# Two ties between the places 1 and 2, one between 2 and 3, one between 3 and 1.
RING = Web(3, ((2, 1), (1, 2), (2, 3), (3, 1)), (1, 0, 0))
ONE, TWO, THREE = ("place", 1), ("place", 2), ("place", 3)
GREAT = 10 ** 40 - 1


def halves(first, second):
    return ("halves", first, second)


def spoiled_plan(source, web, plan):
    """The plan with some places changed."""
    if plan[0] == "halves" and source.random() < 0.9:
        sides = [spoiled_plan(source, web, side) if source.random() < 0.6 else side for side in plan[1:]]
        return ("halves", *sides)
    return source.choice((plan, ("place", source.randint(0, web.places + 1)), halves(plan, plan), plan))


class Fault(unittest.TestCase):

    def test_right_plans(self):
        for plan in (halves(ONE, halves(TWO, THREE)), halves(halves(THREE, ONE), TWO), halves(TWO, halves(THREE, ONE))):
            self.assertIsNone(plan_fault(RING, plan))
        self.assertIsNone(plan_fault(Web(1, [], [0]), ONE))

    def test_places(self):
        for place in (0, 4, -1, 10 ** 40):
            bad = ("place", place)
            self.assertEqual(plan_fault(RING, bad), ((), "place"))
            self.assertEqual(plan_fault(RING, halves(ONE, bad)), ((1,), "place"))
            self.assertEqual(plan_fault(RING, halves(bad, ONE)), ((0,), "place"))
            self.assertEqual(plan_fault(RING, halves(halves(ONE, bad), halves(bad, ONE))), ((0, 1), "place"))

    def test_again(self):
        self.assertEqual(plan_fault(RING, halves(ONE, ONE)), ((1,), "again"))
        self.assertEqual(plan_fault(RING, halves(halves(ONE, TWO), halves(THREE, TWO))), ((1, 1), "again"))
        self.assertEqual(plan_fault(RING, halves(halves(ONE, halves(TWO, TWO)), ONE)), ((0, 1, 1), "again"))
        self.assertEqual(plan_fault(RING, halves(halves(ONE, TWO), halves(ONE, TWO))), ((1, 0), "again"))

    def test_missing(self):
        self.assertEqual(plan_fault(RING, ONE), ((), "missing"))
        self.assertEqual(plan_fault(RING, halves(ONE, THREE)), ((), "missing"))

    def test_the_first_from_left_to_right(self):
        bad = ("place", 9)
        self.assertEqual(plan_fault(RING, halves(halves(ONE, ONE), bad)), ((0, 1), "again"))
        self.assertEqual(plan_fault(RING, halves(bad, halves(ONE, ONE))), ((0,), "place"))
        self.assertEqual(plan_fault(RING, halves(ONE, halves(bad, ONE))), ((1, 0), "place"))
        self.assertEqual(plan_fault(RING, halves(ONE, halves(ONE, bad))), ((1, 0), "again"))

    def test_plans_with_places_changed(self):
        source = random.Random(581)
        kinds = set()
        for web in webrows.some_webs(582, 60):
            for _ in range(8):
                plan = webrows.random_plan(source, range(1, web.places + 1))
                self.assertIsNone(plan_fault(web, plan))
                changed = spoiled_plan(source, web, plan)
                found = plan_fault(web, changed)
                self.assertEqual(found, webrows.plan_fault(web, changed))
                kinds.add(found and found[1])
                if found is not None:
                    self.assertEqual(told(plan_measure, web, changed), raised("BadPaper", *found))
        self.assertEqual(kinds, {None, "place", "again", "missing"})

    def test_deep_plans(self):
        plan = ONE
        for _ in range(40):
            plan = halves(plan, TWO)
        self.assertEqual(plan_fault(RING, plan), ((0,) * 38 + (1,), "again"))


class Measure(unittest.TestCase):

    def test_ordinary_plans(self):
        # The rim of 1 is 1, 2, 4, that of 2 is 1, 2, 3, and that of 3 is 3, 4.
        self.assertEqual(plan_measure(RING, halves(halves(ONE, TWO), THREE)), 4)
        self.assertEqual(plan_measure(Web(1, [], [1]), ONE), 0)
        self.assertEqual(plan_measure(Web(2, [(1, 2)] * 8, [0, 0]), halves(TWO, ONE)), 8)
        row = Web(4, [(1, 2), (2, 3), (3, 4)], [0] * 4)
        self.assertEqual(plan_measure(row, halves(halves(ONE, TWO), halves(THREE, ("place", 4)))), 2)
        self.assertEqual(plan_measure(row, halves(halves(ONE, THREE), halves(TWO, ("place", 4)))), 3)
        self.assertEqual(plan_measure(row, halves(halves(ONE, ("place", 4)), halves(TWO, THREE))), 3)

    def test_faults(self):
        for plan, place, kind in ((ONE, (), "missing"), (halves(ONE, ONE), (1,), "again"), (("place", 0), (), "place")):
            self.assertEqual(told(plan_measure, RING, plan), raised("BadPaper", place, kind))

    def test_plans_of_many_webs(self):
        source = random.Random(583)
        for web in webrows.some_webs(584, 60):
            least = least_measure(web)
            for _ in range(10):
                plan = webrows.random_plan(source, range(1, web.places + 1))
                self.assertEqual(plan_measure(web, plan), webrows.measure_of(web, plan))
                self.assertGreaterEqual(plan_measure(web, plan), least)
                self.assertEqual(plan_measure(web.moved(web.rim((1,))), plan), plan_measure(web, plan))


class Halving(unittest.TestCase):

    def check(self, web):
        least = webrows.least_measure(web)
        self.assertEqual(least_measure(web), least)
        for bound in (least, least + 1, 9, GREAT):
            plan = halving(web, bound)
            self.assertTrue(plain(plan))
            self.assertIsNone(webrows.plan_fault(web, plan))
            self.assertLessEqual(webrows.measure_of(web, plan), bound)
        for bound in {0, least - 1, least - 2} if least > 1 else ():
            self.assertIsNone(halving(web, max(bound, 0)))
        return least

    def test_ordinary_webs(self):
        self.assertEqual(self.check(Web(1, [], [0])), 0)
        self.assertEqual(self.check(RING), 4)
        for many in range(1, 9):
            self.assertEqual(self.check(Web(2, [(1, 2)] * many, [0, 1])), many)
        self.assertEqual(self.check(Web(4, [(1, 2), (2, 3), (3, 4)], [0] * 4)), 2)
        self.assertEqual(self.check(Web(6, [(k, k % 6 + 1) for k in range(1, 7)], [0] * 6)), 3)

    def test_many_webs(self):
        self.assertEqual({self.check(web) for web in webrows.some_webs(585, 150)}, {0, 1, 2, 3, 4, 5, 6, 7, 8})

    def test_charges_do_not_matter(self):
        for web in webrows.some_webs(586, 25):
            other = Web(web.places, web.ties, [1 - charge for charge in web.charges])
            self.assertEqual(least_measure(web), least_measure(other))
            self.assertEqual(halving(web, 8), halving(other, 8))


if __name__ == "__main__":
    unittest.main()
