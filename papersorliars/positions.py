"""Positions of a web: pairs of a row of held ties and a part under them."""


class PositionTable:
    """The positions of one web, and what they become when a tie is held or let go."""

    def __init__(self, web):
        self.web = web
        self.known = {}

    def parts_under(self, held):
        """The parts under the held ties, which are worked out once only."""
        if held not in self.known:
            self.known[held] = self.web.parts(held)
        return self.known[held]

    def start(self):
        """The position of no held ties and all places."""
        return ((), self.parts_under(())[0])

    def other_ties(self, held):
        """The ties that are not held, ascending."""
        return [tie for tie in range(1, len(self.web.ties) + 1) if tie not in held]

    def wider(self, position, tie):
        """The position without the held tie whose part contains the part."""
        held, part = position
        less = tuple([other for other in held if other != tie])
        return (less, [other for other in self.parts_under(less) if part[0] in other][0])

    def narrower(self, position, tie):
        """The positions with the tie held as well whose part lies within the part, ascending."""
        held, part = position
        more = tuple(sorted(held + (tie,)))
        return [(more, other) for other in self.parts_under(more) if other[0] in part]

    def is_open(self, present, position):
        """Whether for some held tie the position without it is not among those present."""
        return not all([self.wider(position, tie) in present for tie in position[0]])

    def is_caught(self, present, position):
        """Whether for some other tie no position with it is among those present."""
        for tie in self.other_ties(position[0]):
            if not any([other in present for other in self.narrower(position, tie)]):
                return True
        return False
