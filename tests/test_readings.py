"""Points 49 to 51 and the interface of readings."""

import itertools
import random
import unittest

from papersorliars.readings import best_reading, reading_fault, reading_room
from papersorliars.texts import read_value, value_text
from tests.helpers import plain, raised, told
from tests.least import branched, number_of
from tests.linepapers import grown, ladder, leaves_of, papers

LEAF = ("wish", 0)
SMALL = ("from", 1, (), LEAF, LEAF)
# Its nodes are (), (0,), (1,), (1, 0) and (1, 1).
PAPER = ("from", 1, (), ("wish", 1), ("from", 2, ((1, 0),), ("wish", 0), ("wish", 2)))


def places_of(node, place=()):
    """All nodes of a line tree, as a dict from the place to the sides it has."""
    if node[0] == "wish":
        return {place: ()}
    found = {place: (place + (0,), place + (1,))}
    found.update(places_of(node[3], place + (0,)))
    found.update(places_of(node[4], place + (1,)))
    return found


def fault(paper, order):
    """The first fault by the words of point 50."""
    nodes = places_of(paper)
    for at, place in enumerate(order):
        if place not in nodes:
            return (at, "node")
        if place in order[:at]:
            return (at, "again")
        if any(side not in order[:at] for side in nodes[place]):
            return (at, "early")
    return (len(order), "missing") if set(nodes) - set(order) else None


def room(paper, order):
    """The room by the words of point 49: the lines that are held are those of nodes."""
    nodes = places_of(paper)
    held, most = [], 0
    for place in order:
        for side in nodes[place]:
            held.remove(side)
        held.append(place)
        most = max(most, len(held))
    assert held == [()]
    return most


def any_reading(source, paper):
    """A reading made by chance."""
    nodes = places_of(paper)
    order = []
    left = list(nodes)
    while left:
        ready = [place for place in left if all(side in order for side in nodes[place])]
        place = source.choice(ready)
        order.append(place)
        left.remove(place)
    return tuple(order)


def random_shape(source, leaves):
    """A line tree with this many leaves that is right for no book."""
    if leaves == 1:
        return ("wish", source.choice((-1, 0, 10 ** 40)))
    first = source.randint(1, leaves - 1)
    line = source.choice(((), ((9, 9),), ((2, 0), (1, 0)), ((-1, 1),)))
    name = source.choice((0, -3, 1, 10 ** 40))
    return ("from", name, line, random_shape(source, first), random_shape(source, leaves - first))


def balanced(deep):
    return LEAF if deep == 0 else ("from", 1, (), balanced(deep - 1), balanced(deep - 1))


class Fault(unittest.TestCase):

    def test_right_readings(self):
        self.assertIsNone(reading_fault(LEAF, ((),)))
        self.assertIsNone(reading_fault(SMALL, ((0,), (1,), ())))
        self.assertIsNone(reading_fault(SMALL, ((1,), (0,), ())))
        self.assertIsNone(reading_fault(PAPER, ((0,), (1, 0), (1, 1), (1,), ())))
        self.assertIsNone(reading_fault(PAPER, ((1, 1), (0,), (1, 0), (1,), ())))

    def test_no_nodes(self):
        for place in ((0,), (1,), (2,), (-1,), (0, 0), (0, 1), (10 ** 40,)):
            self.assertEqual(reading_fault(LEAF, (place,)), (0, "node"))
            self.assertEqual(reading_fault(LEAF, ((), place)), (1, "node"))
        for place in ((0, 0), (0, 1), (1, 2), (1, 0, 0), (1, 1, 1), (2,), (-1,), (1, -1), (0, 0, 0, 0)):
            self.assertEqual(reading_fault(PAPER, (place,)), (0, "node"))
            self.assertEqual(reading_fault(PAPER, ((0,), (1, 0), place, (1,))), (2, "node"))

    def test_nodes_that_were_read_before(self):
        self.assertEqual(reading_fault(LEAF, ((), ())), (1, "again"))
        self.assertEqual(reading_fault(PAPER, ((0,), (0,))), (1, "again"))
        self.assertEqual(reading_fault(PAPER, ((0,), (1, 0), (1, 1), (0,), (1,), ())), (3, "again"))
        self.assertEqual(reading_fault(PAPER, ((0,), (1, 0), (1, 1), (1,), (), (1,))), (5, "again"))

    def test_nodes_that_come_early(self):
        for order, at in ((((),), 0), (((0,), ()), 1), (((1,), ()), 1)):
            self.assertEqual(reading_fault(SMALL, order), (at, "early"))
        self.assertEqual(reading_fault(PAPER, ((0,), (1, 1), (1,), (1, 0), ())), (2, "early"))
        self.assertEqual(reading_fault(PAPER, ((1, 0), (1,))), (1, "early"))
        self.assertEqual(reading_fault(PAPER, ((1, 0), (1, 1), (1,), (), (0,))), (3, "early"))
        # Below a node all may have been read, but not its side itself.
        self.assertEqual(reading_fault(PAPER, ((0,), (1, 0), (1, 1), (), (1,))), (3, "early"))

    def test_missing_nodes(self):
        self.assertEqual(reading_fault(LEAF, ()), (0, "missing"))
        self.assertEqual(reading_fault(PAPER, ()), (0, "missing"))
        self.assertEqual(reading_fault(PAPER, ((0,), (1, 0), (1, 1), (1,))), (4, "missing"))
        self.assertEqual(reading_fault(PAPER, ((1, 1),)), (1, "missing"))

    def test_the_first_of_several_faults(self):
        self.assertEqual(reading_fault(PAPER, ((0,), (0,), (5,), ())), (1, "again"))
        self.assertEqual(reading_fault(PAPER, ((0,), (5,), (0,), ())), (1, "node"))
        self.assertEqual(reading_fault(PAPER, ((0,), (), (0,), (5,))), (1, "early"))
        self.assertEqual(reading_fault(PAPER, ((0,), (), ())), (1, "early"))
        self.assertEqual(reading_fault(PAPER, ((0,), (1, 0), (3,))), (2, "node"))

    def test_all_short_rows(self):
        nodes = [(), (0,), (1,), (1, 0), (1, 1), (0, 0)]
        for many in range(4):
            for order in itertools.product(nodes, repeat=many):
                for paper in (LEAF, SMALL, PAPER):
                    self.assertEqual(reading_fault(paper, order), fault(paper, order), (paper, order))
        for order in itertools.permutations(nodes[:5]):
            self.assertEqual(reading_fault(PAPER, order), fault(PAPER, order))

    def test_readings_with_places_changed(self):
        source = random.Random(101)
        kinds = set()
        for _ in range(300):
            paper = random_shape(source, source.randint(1, 7))
            order = list(any_reading(source, paper))
            self.assertIsNone(reading_fault(paper, tuple(order)))
            for _ in range(source.randint(1, 2)):
                at = source.randint(0, len(order))
                deed = source.randint(0, 3)
                if deed == 0 and order:
                    order.pop(at % len(order))
                elif deed == 1:
                    order.insert(at, source.choice(order or [()]))
                elif deed == 2:
                    order.insert(at, tuple(source.choice((0, 1, 2)) for _ in range(source.randint(0, 3))))
                else:
                    other = source.randint(0, len(order))
                    order[min(at, other):max(at, other)] = order[min(at, other):max(at, other)][::-1]
            found = reading_fault(paper, tuple(order))
            self.assertEqual(found, fault(paper, tuple(order)))
            kinds.add(found and found[1])
        self.assertEqual(kinds, {None, "node", "again", "early", "missing"})


class Room(unittest.TestCase):

    def test_ordinary_readings(self):
        self.assertEqual(reading_room(LEAF, ((),)), 1)
        self.assertEqual(reading_room(SMALL, ((0,), (1,), ())), 2)
        self.assertEqual(reading_room(PAPER, ((1, 0), (1, 1), (1,), (0,), ())), 2)
        self.assertEqual(reading_room(PAPER, ((0,), (1, 0), (1, 1), (1,), ())), 3)

    def test_readings_by_chance(self):
        source = random.Random(102)
        for _ in range(200):
            paper = random_shape(source, source.randint(1, 8))
            order = any_reading(source, paper)
            self.assertEqual(reading_room(paper, order), room(paper, order))
            self.assertGreaterEqual(reading_room(paper, order), 1 + number_of(paper, 0, branched))

    def test_readings_with_a_fault(self):
        for order, at, kind in (((), 0, "missing"), (((0,), (1, 0)), 2, "missing"), (((),), 0, "early"),
                                (((0,), (0,)), 1, "again"), (((0,), (0, 0)), 1, "node")):
            self.assertEqual(told(reading_room, PAPER, order), raised("BadPaper", at, kind))

    def test_all_leaves_first(self):
        paper = balanced(6)
        nodes = sorted(places_of(paper), key=len, reverse=True)
        self.assertEqual(reading_room(paper, tuple(nodes)), 64)


class Best(unittest.TestCase):

    def check(self, paper):
        order = best_reading(paper)
        self.assertIs(type(order), tuple)
        self.assertTrue(plain(order))
        self.assertIsNone(reading_fault(paper, order))
        self.assertEqual(reading_room(paper, order), 1 + number_of(paper, 0, branched))
        self.assertEqual(best_reading(read_value(value_text(paper))), order)
        return order

    def test_ordinary_line_trees(self):
        self.assertEqual(best_reading(LEAF), ((),))
        self.assertIn(best_reading(SMALL), (((0,), (1,), ()), ((1,), (0,), ())))
        order = self.check(PAPER)
        self.assertEqual(order[-2:], ((0,), ()))
        self.assertEqual(room(PAPER, order), 2)

    def test_no_reading_has_less_room(self):
        source = random.Random(103)
        for _ in range(60):
            paper = random_shape(source, source.randint(1, 4))
            order = self.check(paper)
            self.assertIsNone(fault(paper, order))
            rights = [row for row in itertools.permutations(places_of(paper)) if fault(paper, row) is None]
            self.assertEqual(room(paper, order), min(room(paper, row) for row in rights))

    def test_line_trees_of_books_and_of_none(self):
        source = random.Random(104)
        for leaves in (1, 2, 3, 5, 8, 13, 40):
            for _ in range(12):
                paper = random_shape(source, leaves)
                self.assertEqual(room(paper, self.check(paper)), 1 + number_of(paper, 0, branched))
        for _, paper in papers(105, 25):
            self.check(paper)

    def test_great_line_trees(self):
        for paper in (grown(4000, list(range(1, 41))), balanced(11)):
            self.check(paper)
        self.assertEqual(leaves_of(grown(4000, list(range(1, 41)))), 4000)

    def test_nested_100_deep(self):
        for side in (0, 1):
            paper = ladder([0] * 99, side)
            self.assertEqual(read_value(value_text(paper)), paper)
            order = self.check(paper)
            self.assertEqual(reading_room(paper, order), 2)
            self.assertEqual(reading_fault(paper, order[:-1]), (198, "missing"))
            self.assertEqual(reading_fault(paper, order + ((side,) * 100,)), (199, "node"))
            self.assertEqual(reading_fault(paper, ((side,) * 99, (side,) * 98)), (1, "early"))


if __name__ == "__main__":
    unittest.main()
