"""Webs for the tests: rims, parts, plans and refuges by the words of the document, and webs made by chance."""

import functools
import itertools

from papersorliars.errors import BadWeb
from papersorliars.webs import Web


def random_web(source, odd=None, places=None):
    """A web made by chance; often several ties join the same two places."""
    while True:
        many = source.randint(1, 7) if places is None else places
        ties = []
        for _ in range(source.randint(max(many - 1, 0), 8) if many > 1 else 0):
            ties.append(tuple(source.sample(range(1, many + 1), 2)))
        charges = [source.randint(0, 1) for _ in range(many)]
        try:
            web = Web(many, ties, charges)
        except BadWeb:
            continue
        if odd is None or web.odd == odd:
            return web


def some_webs(seed, many, odd=None):
    """Rings, stars, rows of ties, webs of two places, and webs made by chance."""
    import random
    source = random.Random(seed)
    found = []
    for size in range(2, 8):
        ring = [(k, k % size + 1) for k in range(1, size + 1)]
        star = [(1, k) for k in range(2, size + 1)]
        line = [(k, k + 1) for k in range(1, size)]
        for ties in (ring, star, line):
            found.append((size, ties))
    found += [(2, [(1, 2)] * k) for k in (1, 3, 8)]
    found += [(1, []), (4, [(1, 2), (1, 3), (1, 4), (2, 3), (2, 4), (3, 4)]), (3, [(1, 2), (2, 3), (1, 3)] * 2),
              (5, [(1, 2), (2, 3), (3, 4), (4, 5), (5, 1), (1, 3), (2, 4), (3, 5)]),
              (7, [(1, 2), (2, 3), (3, 4), (4, 5), (5, 6), (6, 7), (7, 1), (1, 4)])]
    webs = []
    for at, (places, ties) in enumerate(found):
        charges = [source.randint(0, 1) for _ in range(places)]
        if odd is not None and sum(charges) % 2 != odd:
            charges[at % places] = 1 - charges[at % places]
        webs.append(Web(places, ties, charges))
    while len(webs) < many:
        webs.append(random_web(source, odd))
    return webs[:many]


def rim(web, places):
    return tuple(x for x, (a, b) in enumerate(web.ties, 1) if (a in places) + (b in places) == 1)


def reached(ties, held, place):
    """All places that can be reached from the place along ties that are not held."""
    found = {place}
    while True:
        more = set(found)
        for x, ends in enumerate(ties, 1):
            if x not in held and found & set(ends):
                more |= set(ends)
        if more == found:
            return tuple(sorted(found))
        found = more


@functools.lru_cache(maxsize=100000)
def parts_of(places, ties, held):
    return tuple(sorted({reached(ties, held, place) for place in range(1, places + 1)}))


def parts(web, held):
    return parts_of(web.places, web.ties, tuple(held))


def all_ties(web):
    return range(1, len(web.ties) + 1)


def is_ties(web, held):
    return list(held) == sorted(set(held)) and all(x in all_ties(web) for x in held)


def wrong_answers(web, place):
    """The rows of answers to all ties of the place whose sum has another parity than its charge."""
    ties = rim(web, (place,))
    for answers in itertools.product((0, 1), repeat=len(ties)):
        if sum(answers) % 2 != web.charges[place - 1]:
            yield tuple(zip(ties, answers))


def plan_fault(web, plan):
    """The first fault by the words of points 116 and 117."""
    seen = []

    def look(node, way):
        if node[0] == "halves":
            return look(node[1], way + (0,)) or look(node[2], way + (1,))
        if node[1] not in range(1, web.places + 1):
            return (way, "place")
        if node[1] in seen:
            return (way, "again")
        seen.append(node[1])
        return None

    return look(plan, ()) or (None if len(seen) == web.places else ((), "missing"))


def places_of(plan):
    return [plan[1]] if plan[0] == "place" else places_of(plan[1]) + places_of(plan[2])


def measure_of(web, plan):
    if plan[0] == "place":
        return 0
    ties = {*rim(web, places_of(plan[1])), *rim(web, places_of(plan[2]))}
    return max(len(ties), measure_of(web, plan[1]), measure_of(web, plan[2]))


def random_plan(source, places):
    """A right plan for these places, made by chance."""
    places = list(places)
    source.shuffle(places)
    if len(places) == 1:
        return ("place", places[0])
    at = source.randint(1, len(places) - 1)
    return ("halves", random_plan(source, places[:at]), random_plan(source, places[at:]))


def least_measure(web):
    """The least measure of a plan, over all ways to halve the places."""
    known = {}

    def least(places):
        if len(places) == 1:
            return 0
        if places not in known:
            found = []
            for size in range(1, len(places) // 2 + 1):
                for half in itertools.combinations(places, size):
                    other = tuple(p for p in places if p not in half)
                    ties = {*rim(web, half), *rim(web, other)}
                    found.append(max(len(ties), least(half), least(other)))
            known[places] = min(found)
        return known[places]

    return least(tuple(range(1, web.places + 1)))


def has_wider(web, rows, position, tie):
    held, part = position
    less = tuple(x for x in held if x != tie)
    return any((less, other) in rows for other in parts(web, less) if set(part) <= set(other))


def has_narrower(web, rows, position, tie):
    held, part = position
    more = tuple(sorted(held + (tie,)))
    return any((more, other) in rows for other in parts(web, more) if set(other) <= set(part))


def refuge_fault(web, bound, rows):
    """The first fault by the words of points 118 and 119."""
    before = None
    for position in rows:
        held, part = position
        if not is_ties(web, held) or len(held) > bound + 1:
            return (position, "ties")
        if before is not None and not position > before:
            return (position, "order")
        if part not in parts(web, held):
            return (position, "part")
        if len(part) == 1:
            return (position, "single")
        before = position
    start = ((), tuple(range(1, web.places + 1)))
    if start not in rows:
        return (start, "empty")
    present = set(rows)
    for position in rows:
        if not all(has_wider(web, present, position, tie) for tie in position[0]):
            return (position, "open")
        if len(position[0]) <= bound:
            if not all(has_narrower(web, present, position, t) for t in all_ties(web) if t not in position[0]):
                return (position, "caught")
    return None


def greatest_refuge(web, bound):
    """The positions that are left when those that no refuge has are taken away one by one, or None."""
    rows = set()
    for size in range(min(len(web.ties), bound + 1) + 1):
        for held in itertools.combinations(all_ties(web), size):
            rows |= {(held, part) for part in parts(web, held) if len(part) > 1}
    while True:
        less = set()
        for position in rows:
            fine = all(has_wider(web, rows, position, tie) for tie in position[0])
            if fine and len(position[0]) <= bound:
                fine = all(has_narrower(web, rows, position, t) for t in all_ties(web) if t not in position[0])
            if fine:
                less.add(position)
        if less == rows:
            start = ((), tuple(range(1, web.places + 1)))
            return tuple(sorted(rows)) if start in rows else None
        rows = less
