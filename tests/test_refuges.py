"""Points 118 to 121 and the interface of refuges."""

import random
import unittest

from papersorliars.halvings import least_measure
from papersorliars.refuges import Runner, refuge, refuge_fault
from papersorliars.webs import Web
from tests import webrows
from tests.helpers import plain, raised, told

GREAT = 10 ** 40 - 1
# Two ties between the places 1 and 2, one between 2 and 3, one between 3 and 1; the least measure is 4.
RING = Web(3, ((2, 1), (1, 2), (2, 3), (3, 1)), (1, 0, 0))
TWO = Web(2, [(1, 2), (2, 1)], [0, 0])
ALL = (1, 2)
START = ((), ALL)
ROWS = (START, ((1,), ALL), ((2,), ALL))


def spoiled_refuge(source, web, rows):
    """The row with one position less, more or changed."""
    rows = list(rows)
    at = source.randint(0, max(len(rows) - 1, 0))
    deed = source.randint(0, 6)
    held = tuple(sorted(source.sample(range(0, len(web.ties) + 2), source.randint(0, min(3, len(web.ties))))))
    if deed == 0 or not rows:
        rows.insert(at, (held, tuple(range(1, web.places + 1))))
    elif deed == 1:
        rows.pop(at)
    elif deed == 2:
        rows = [rows[0]] + [row for row in rows[1:] if source.random() < 0.8]
    elif deed == 3:
        rows[at] = (rows[at][0], tuple(source.sample(range(1, web.places + 1), source.randint(1, web.places))))
    elif deed == 4:
        fine = tuple(x for x in held if 1 <= x <= len(web.ties))
        more = [(fine, part) for part in webrows.parts(web, fine)]
        rows = sorted(set(rows + more[:1]))
    elif deed == 5:
        other = source.randint(0, len(rows) - 1)
        rows[at], rows[other] = rows[other], rows[at]
    else:
        rows = sorted(set(row for row in rows if len(row[0]) < len(rows[-1][0])))
    return tuple(rows)


class Fault(unittest.TestCase):

    def test_right_refuges(self):
        self.assertIsNone(refuge_fault(TWO, 0, ROWS))
        self.assertIsNone(refuge_fault(RING, 0, refuge(RING, 0)))
        # A web of two places with three ties: one tie may be held, whichever it is, and two of them as well.
        self.assertIsNone(refuge_fault(Web(2, [(1, 2)] * 3, [0, 1]), 0, ROWS + (((3,), ALL),)))

    def test_ties(self):
        for held in ((0,), (3,), (-1,), (1, 1), (2, 1), (10 ** 40,), (1, 2)):
            for part in (ALL, (1,), (), (9, 9)):
                self.assertEqual(refuge_fault(TWO, 0, ((held, part),)), ((held, part), "ties"))
                self.assertEqual(refuge_fault(TWO, 0, ROWS + ((held, part),)), ((held, part), "ties"))
        self.assertEqual(refuge_fault(TWO, 1, ROWS + (((1, 2), ALL),)), (((1, 2), ALL), "order"))

    def test_order(self):
        for bad in (START, ((1,), ALL), ((2,), ALL), ((1,), (9,)), ((), (1,))):
            self.assertEqual(refuge_fault(TWO, 0, ROWS + (bad,)), (bad, "order"))
        self.assertEqual(refuge_fault(TWO, 0, ROWS[::-1]), (ROWS[1], "order"))

    def test_parts(self):
        for part in ((), (1,), (2,), (2, 1), (1, 2, 3), (0,), (9, 9)):
            self.assertEqual(refuge_fault(TWO, 0, (((), part),)), (((), part), "part"))
        self.assertEqual(refuge_fault(TWO, 1, ROWS[:2] + (((1, 2), ALL),)), (((1, 2), ALL), "part"))

    def test_single(self):
        self.assertEqual(refuge_fault(TWO, 1, ROWS[:2] + (((1, 2), (2,)),)), (((1, 2), (2,)), "single"))
        self.assertEqual(refuge_fault(Web(1, [], [0]), 0, (((), (1,)),)), (((), (1,)), "single"))

    def test_empty(self):
        for rows in ((), ROWS[1:], ROWS[2:]):
            self.assertEqual(refuge_fault(TWO, 0, rows), (START, "empty"))
        self.assertEqual(refuge_fault(Web(1, [], [0]), GREAT, ()), (((), (1,)), "empty"))
        # Behind all of the first four, and ahead of the others.
        self.assertEqual(refuge_fault(TWO, 0, (ROWS[1], ((3,), ALL))), (((3,), ALL), "ties"))
        self.assertEqual(refuge_fault(TWO, 0, (ROWS[1], ROWS[1])), (ROWS[1], "order"))
        self.assertEqual(refuge_fault(TWO, 0, (ROWS[1], ((2,), (1,)))), (((2,), (1,)), "part"))
        self.assertEqual(refuge_fault(TWO, 1, (((1, 2), (1,)),)), (((1, 2), (1,)), "single"))
        self.assertEqual(refuge_fault(RING, 1, (((1, 2), (1, 2, 3)),)), (((), (1, 2, 3)), "empty"))

    def test_caught(self):
        self.assertEqual(refuge_fault(TWO, 0, ROWS[:2]), (START, "caught"))
        self.assertEqual(refuge_fault(TWO, 0, ROWS[:1]), (START, "caught"))
        self.assertEqual(refuge_fault(TWO, 1, ROWS), (ROWS[1], "caught"))
        self.assertEqual(refuge_fault(TWO, GREAT, ROWS), (ROWS[1], "caught"))

    def test_open(self):
        rows = [row for row in refuge(RING, 1) if row[0] != (1,)]
        found = refuge_fault(RING, 1, tuple(rows))
        self.assertEqual(found, (((), (1, 2, 3)), "caught"))
        # The positions with (1, 2) lack the one with (1,) when nothing else is asked of those before them.
        rows = ((), (1, 2, 3)), ((1,), (1, 2, 3)), ((2, 3), (1, 2, 3))
        self.assertEqual(refuge_fault(RING, 1, rows), (rows[0], "caught"))
        web = Web(3, [(1, 2), (2, 3)], [0, 0, 0])
        rows = ((), (1, 2, 3)), ((1,), (2, 3)), ((2,), (1, 2))
        self.assertIsNone(refuge_fault(web, 0, rows))
        web = Web(4, [(1, 2), (2, 3), (3, 4), (4, 1)], [0] * 4)
        whole = (1, 2, 3, 4)
        rows = [((), whole)] + [((k,), whole) for k in (1, 2, 3, 4)]
        self.assertIsNone(refuge_fault(web, 0, tuple(rows)))
        # Held are 1 and 3, and the part is 1, 4; without the tie 2 nothing is open.
        less = rows[:2] + [((1, 3), (1, 4))] + rows[2:3] + rows[4:]
        self.assertEqual(refuge_fault(web, 1, tuple(less)), (((), whole), "caught"))

    def test_open_ahead_of_caught_at_a_position(self):
        # Every tie is held with all other ones, and what is lacking is the position of one tie alone.
        for web in webrows.some_webs(591, 60):
            for bound in (1, 2, 3):
                rows = webrows.greatest_refuge(web, bound)
                for at in range(1 + bound, len(rows) if rows else 0, 4):
                    less = rows[:at] + rows[at + 1:]
                    self.assertEqual(refuge_fault(web, bound, less), webrows.refuge_fault(web, bound, less))

    def test_refuges_with_places_changed(self):
        source = random.Random(592)
        kinds = {}
        for web in webrows.some_webs(593, 90):
            for bound in range(max(least_measure(web) - 1, 1)):
                rows = refuge(web, bound) or ()
                for _ in range(6):
                    changed = spoiled_refuge(source, web, rows)
                    if source.random() < 0.3:
                        changed = spoiled_refuge(source, web, changed)
                    other = max(bound + source.choice((-1, 0, 0, 0, 0, 1)), 0)
                    found = refuge_fault(web, other, changed)
                    self.assertEqual(found, webrows.refuge_fault(web, other, changed))
                    kinds[found and found[1]] = kinds.get(found and found[1], 0) + 1
        self.assertEqual(set(kinds), {None, "ties", "order", "part", "single", "empty", "open", "caught"})


class Refuge(unittest.TestCase):

    def check(self, web):
        least = least_measure(web)
        for bound in (*range(len(web.ties) + 2), GREAT):
            rows = refuge(web, bound)
            self.assertEqual(rows is None, least <= bound + 1)
            self.assertEqual(rows, webrows.greatest_refuge(web, bound))
            if rows is not None:
                self.assertTrue(plain(rows))
                self.assertIsNone(refuge_fault(web, bound, rows))
                self.assertIsNone(webrows.refuge_fault(web, bound, rows))

    def test_ordinary_webs(self):
        self.assertEqual(refuge(TWO, 0), ROWS)
        self.assertIsNone(refuge(TWO, 1))
        self.assertIsNone(refuge(Web(1, [], [1]), 0))
        self.assertIsNone(refuge(Web(2, [(1, 2)], [1, 0]), 0))
        self.assertIsNotNone(refuge(RING, 2))
        self.assertIsNone(refuge(RING, 3))

    def test_webs_of_two_places(self):
        for many in range(1, 9):
            self.check(Web(2, [(1, 2)] * many, [0, 1]))

    def test_many_webs(self):
        for web in webrows.some_webs(594, 70):
            self.check(web)

    def test_charges_do_not_matter(self):
        for web in webrows.some_webs(595, 20):
            other = Web(web.places, web.ties, [1 - charge for charge in web.charges])
            for bound in (0, 1, 2, 3):
                self.assertEqual(refuge(web, bound), refuge(other, bound))


class Runners(unittest.TestCase):

    def test_an_ordinary_runner(self):
        runner = Runner(RING, 2)
        self.assertEqual((runner.web, runner.bound, runner.held, runner.part), (RING, 2, (), (1, 2, 3)))
        self.assertEqual(runner(4), (1, 2, 3))
        self.assertEqual(runner.held, (4,))
        self.assertEqual(runner(3), (1, 2))
        self.assertEqual((runner.held, runner.part), ((3, 4), (1, 2)))
        self.assertEqual(runner(1), (1, 2))
        self.assertEqual(told(runner, 2), raised("NoLiar", 2))
        self.assertEqual(runner.let_go(4), (1, 2, 3))
        self.assertEqual((runner.held, runner.part), ((1, 3), (1, 2, 3)))
        self.assertEqual(runner.let_go(1), (1, 2, 3))
        self.assertEqual(runner.held, (3,))

    def test_no_refuge(self):
        self.assertEqual(told(Runner, RING, 3), raised("NoLiar", 3))
        self.assertEqual(told(Runner, TWO, GREAT), raised("NoLiar", GREAT))
        self.assertEqual(told(Runner, Web(1, [], [0]), 0), raised("NoLiar", 0))

    def test_errors_change_nothing(self):
        runner = Runner(TWO, 0)
        for tie in (0, 3, -1, 10 ** 40):
            self.assertEqual(told(runner, tie), raised("BadName", tie))
            self.assertEqual(told(runner.let_go, tie), raised("BadName", tie))
        self.assertEqual(told(runner.let_go, 1), raised("BadName", 1))
        self.assertEqual(runner(2), ALL)
        # BadName goes ahead of NoLiar.
        self.assertEqual(told(runner, 2), raised("BadName", 2))
        self.assertEqual(told(runner, 0), raised("BadName", 0))
        self.assertEqual(told(runner, 1), raised("NoLiar", 0))
        self.assertEqual(told(runner.let_go, 1), raised("BadName", 1))
        self.assertEqual((runner.held, runner.part), ((2,), ALL))
        self.assertEqual(runner.let_go(2), ALL)
        self.assertEqual((runner.held, runner.part), ((), ALL))

    def test_runs_on_many_webs(self):
        source = random.Random(596)
        for web in webrows.some_webs(597, 60):
            for bound in range(least_measure(web) - 1):
                self.check_run(source, web, bound)

    def check_run(self, source, web, bound):
        runner, rows = Runner(web, bound), refuge(web, bound)
        for _ in range(25):
            tie = source.randint(1, len(web.ties))
            held, part = runner.held, runner.part
            if tie in held:
                self.assertEqual(told(runner, tie), raised("BadName", tie))
                less = tuple(x for x in held if x != tie)
                expected = [(less, other) for other in webrows.parts(web, less) if set(part) <= set(other)]
                self.assertEqual(runner.let_go(tie), expected[0][1])
            elif len(held) > bound:
                self.assertEqual(told(runner, tie), raised("NoLiar", bound))
                expected = [(held, part)]
            else:
                more = tuple(sorted(held + (tie,)))
                expected = [(more, other) for other in webrows.parts(web, more) if set(other) <= set(part)]
                expected = [position for position in expected if position in rows]
                self.assertEqual(runner(tie), expected[0][1])
            self.assertEqual((runner.held, runner.part), expected[0])
            self.assertIn((runner.held, runner.part), rows)


if __name__ == "__main__":
    unittest.main()
