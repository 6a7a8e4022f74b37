"""The search for a plan of the least measure.

Rows of places and of ties are integers here, with one bit for each place or tie.
"""


class PlanSearch:
    """The search for one web."""

    def __init__(self, web):
        self.every = (1 << web.places) - 1
        # For each row of places the mask of its rim. A tie with both ends in the row is there twice, so not at all.
        self.rims = [0]
        for place in range(1, web.places + 1):
            ends = sum([1 << at for at, tie in enumerate(web.ties) if place in tie])
            self.rims = self.rims + [rim ^ ends for rim in self.rims]
        # For each row of places its least measure, and the first half with which it comes about.
        self.measures = [0] * len(self.rims)
        self.halves = [0] * len(self.rims)
        for row in range(1, len(self.rims)):
            self.settle(row)

    def settle(self, row):
        """Finds the least measure of a row of places, when those of lesser rows are known."""
        best = None
        half = (row - 1) & row
        while half > 0:
            # Both halves of the row come in turn; one order of them is enough.
            if half > row - half:
                measure = self.measure_of(half, row - half)
                if best is None or measure < best:
                    best = measure
                    self.halves[row] = half
            half = (half - 1) & row
        self.measures[row] = 0 if best is None else best

    def measure_of(self, half, other):
        """The least measure of a plan with these halves."""
        ties = ones(self.rims[half] | self.rims[other])
        return max(ties, self.measures[half], self.measures[other])

    def least(self):
        """The least measure of a plan of the web."""
        return self.measures[self.every]

    def plan(self):
        """A plan of the least measure."""
        return self.plan_of(self.every)

    def plan_of(self, row):
        """A plan of the least measure for a row of places."""
        half = self.halves[row]
        if half == 0:
            return ("place", row.bit_length())
        return ("halves", self.plan_of(row - half), self.plan_of(half))


def ones(mask):
    """The number of bits of the mask that are 1."""
    found = 0
    while mask > 0:
        mask = mask & (mask - 1)
        found = found + 1
    return found
