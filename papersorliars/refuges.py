"""Refuges of webs: the greatest one, the check, and the runner who stays in it."""

from itertools import combinations

from papersorliars.errors import BadName, NoLiar
from papersorliars.graded import is_product_of
from papersorliars.positions import PositionTable


def refuge(web, bound):
    """The greatest refuge for the bound, or None."""
    table = PositionTable(web)
    present = {position: True for position in possible_positions(table, bound)}
    links = {position: position_links(table, bound, position) for position in present}
    many = len(present) + 1
    while len(present) < many:
        many = len(present)
        present = {position: True for position in list(present) if is_linked(present, links[position])}
    return tuple(sorted(present)) if table.start() in present else None


def possible_positions(table, bound):
    """The positions of at most bound + 1 held ties whose part has at least two places."""
    ties = table.other_ties(())
    found = []
    for size in range(min(len(ties), bound + 1) + 1):
        for held in list(combinations(ties, size)):
            found.extend([(held, part) for part in table.parts_under(held) if len(part) > 1])
    return found


def position_links(table, bound, position):
    """For each tie the positions of which a refuge has at least one if it has the position."""
    held = position[0]
    found = [[table.wider(position, tie)] for tie in held]
    if len(held) <= bound:
        found.extend([table.narrower(position, tie) for tie in table.other_ties(held)])
    return found


def is_linked(present, links):
    """Whether of each of the rows of positions at least one is present."""
    return all([any([position in present for position in row]) for row in links])


def refuge_fault(web, bound, rows):
    """The first fault of a refuge, or None."""
    table = PositionTable(web)
    before = None
    for position in rows:
        kind = position_fault(table, bound, position, before)
        if kind is not None:
            return (position, kind)
        before = position
    present = {position: True for position in rows}
    if table.start() not in present:
        return (table.start(), "empty")
    for position in rows:
        if table.is_open(present, position):
            return (position, "open")
        if len(position[0]) <= bound and table.is_caught(present, position):
            return (position, "caught")
    return None


def position_fault(table, bound, position, before):
    """The kind of the fault of one position by itself or by the one before it, or None."""
    held, part = position
    if not is_product_of(len(table.web.ties), held) or len(held) > bound + 1:
        return "ties"
    if before is not None and position <= before:
        return "order"
    if part not in table.parts_under(held):
        return "part"
    return "single" if len(part) == 1 else None


class Runner:
    """A runner who stays in the greatest refuge while ties are held and let go."""

    def __init__(self, web, bound):
        rows = refuge(web, bound)
        if rows is None:
            raise NoLiar(bound)
        self.web = web
        self.bound = bound
        self.held = ()
        self.table = PositionTable(web)
        self.safe = {position: True for position in rows}
        self.part = self.table.start()[1]

    def __call__(self, tie):
        if tie not in self.table.other_ties(self.held):
            raise BadName(tie)
        if len(self.held) > self.bound:
            raise NoLiar(self.bound)
        found = [other for other in self.table.narrower((self.held, self.part), tie) if other in self.safe]
        self.held, self.part = found[0]
        return self.part

    def let_go(self, tie):
        """Lets go of the tie; returns the new part."""
        if tie not in self.held:
            raise BadName(tie)
        self.held, self.part = self.table.wider((self.held, self.part), tie)
        return self.part
