"""Polynomials without squares, and those of stands and wishes."""

from papersorliars.errors import BadField, BadOrder, BadStand, TooLarge
from papersorliars.fields import check_field, in_field
from papersorliars.graded import graded_key, is_product, products_over, united
from papersorliars.stands import denied, is_right_row

MOST_PAIRS = 10


class Poly:
    """A polynomial over a field: its terms are products with numbers that are not 0 in the field."""

    def __init__(self, field, terms):
        check_field(field)
        for product, _ in terms:
            if not is_product(product):
                raise BadOrder(product)
        self.field = field
        self.terms = graded_terms(field, terms)
        self.numbers = {product: number for product, number in self.terms}

    @property
    def degree(self):
        """The most names of a product of the terms, 0 without terms."""
        return len(self.terms[-1][0]) if self.terms else 0

    def number(self, product):
        """The number of the product, 0 without such a term."""
        return self.numbers.get(product, 0)

    def __call__(self, stand):
        """The value at the stand."""
        ones = {name: True for name, value in stand if value == 1}
        numbers = [number for product, number in self.terms if all([name in ones for name in product])]
        return in_field(self.field, sum(numbers))

    def __iter__(self):
        return iter(self.terms)

    def __contains__(self, product):
        return product in self.numbers

    def __add__(self, other):
        if self.field != other.field:
            raise BadField(other.field)
        return Poly(self.field, self.terms + other.terms)

    def __sub__(self, other):
        if self.field != other.field:
            raise BadField(other.field)
        return Poly(self.field, self.terms + negative(other.terms))

    def __mul__(self, other):
        if self.field != other.field:
            raise BadField(other.field)
        return Poly(self.field, multiplied(self.terms, other.terms))

    def __neg__(self):
        return Poly(self.field, negative(self.terms))

    def __eq__(self, other):
        return isinstance(other, Poly) and self.field == other.field and self.terms == other.terms


def graded_terms(field, terms):
    """The terms with the numbers of equal products added, in graded order, without those that are 0."""
    sums = {}
    for product, number in terms:
        sums[product] = in_field(field, sums.get(product, 0) + number)
    keys = sorted([graded_key(product) for product, number in sums.items() if number != 0])
    return tuple([(product, sums[product]) for _, product in keys])


def negative(terms):
    """The terms with the opposite numbers."""
    return tuple([(product, -number) for product, number in terms])


def multiplied(terms, others):
    """The terms of the product of two polynomials, with equal products added."""
    sums = {}
    for product, number in terms:
        for second, factor in others:
            both = united(product, second)
            sums[both] = sums.get(both, 0) + number * factor
    return list(sums.items())


def stand_terms(stand):
    """The terms of the polynomial of a stand, over any field, each product once."""
    ones = tuple([name for name, value in stand if value == 1])
    zeros = [name for name, value in stand if value == 0]
    found = []
    for product in products_over(zeros, len(zeros)):
        found.append((united(ones, product), 1 if len(product) % 2 == 0 else -1))
    return found


def stand_poly(field, stand):
    """The polynomial of a stand."""
    check_row(field, stand)
    return Poly(field, stand_terms(stand))


def wish_poly(field, wish):
    """The polynomial of a wish: that of the stand that just breaks it."""
    check_row(field, wish)
    return Poly(field, stand_terms(denied(wish)))


def check_row(field, row):
    """Raises TooLarge for more pairs than are allowed, then BadField, then BadStand if the row is not right."""
    if len(row) > MOST_PAIRS:
        raise TooLarge(len(row), MOST_PAIRS)
    check_field(field)
    if not is_right_row(max([name for name, _ in row], default=0), row):
        raise BadStand(row)
