"""Spaces of vectors over a field.

A vector is a list of numbers; its leading place is the last one whose number is not 0. Over the field 0 a
vector stands for all its multiples by fractions, too, so it is kept with integers without a common divisor.
"""

from math import gcd, lcm

from papersorliars.fields import in_field, inverse


class Space:
    """The vectors that some vectors give when they are multiplied and added."""

    def __init__(self, field):
        self.field = field
        self.rows = {}

    def rest(self, vector):
        """What is left of the vector when the leading places of the space are made 0."""
        found = [in_field(self.field, number) for number in vector]
        for place in sorted(self.rows, reverse=True):
            found = cleared(self.field, found, self.rows[place], place)
        return found

    def holds(self, vector):
        """Whether the vector is in the space."""
        return leading_place(self.rest(vector)) is None

    def take(self, vector):
        """Adds the vector to the space; returns the row that it becomes, or None if the space has it already."""
        found = self.rest(vector)
        place = leading_place(found)
        if place is None:
            return None
        self.rows[place] = scaled(self.field, found, place)
        return self.rows[place]

    def basis(self):
        """The reduced basis: for each leading place, ascending, a vector that is 0 at all other leading places."""
        found = {}
        for place in sorted(self.rows):
            row = self.rows[place]
            for lower in sorted(found):
                row = cleared(self.field, row, found[lower], lower)
            found[place] = scaled(self.field, row, place)
        return found


def leading_place(vector):
    """The last place whose number is not 0, or None."""
    for place in reversed(range(len(vector))):
        if vector[place] != 0:
            return place
    return None


def cleared(field, vector, row, place):
    """The vector, or a multiple of it, less a multiple of the row, so that it is 0 at the place."""
    if vector[place] == 0:
        return vector
    common = gcd(vector[place], row[place])
    times = row[place] // common
    less = vector[place] // common
    if field == 0:
        return [times * first - less * second for first, second in zip(vector, row)]
    return [(times * first - less * second) % field for first, second in zip(vector, row)]


def scaled(field, vector, place):
    """The vector with 1 at the place, or over the field 0 without a common divisor and above 0 at the place."""
    if field != 0:
        times = inverse(field, vector[place])
        return [times * number % field for number in vector]
    common = 0
    for number in vector:
        common = gcd(common, number)
    if vector[place] < 0:
        common = -common
    return [number // common for number in vector]


def annihilator(field, basis, place, size):
    """A vector that gives 0 with each vector of the reduced basis.

    It is not 0 at the place, which leads no vector of the basis, and 0 at all other places that lead none.
    """
    scale = 1
    for lead, row in basis.items():
        if row[place] != 0:
            scale = lcm(scale, row[lead] // gcd(row[lead], row[place]))
    found = [0] * size
    found[place] = scale
    for lead, row in basis.items():
        found[lead] = in_field(field, -row[place] * scale // row[lead])
    return found
