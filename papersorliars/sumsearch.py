"""The search for sums and designs of a book over a field.

The rows of a sum are polynomials of stands: a row has the polynomial of the stand that just breaks its wish
and answers the names of its product 1. If these polynomials, of at most the degree of the bound, give a
constant, they give a sum; otherwise some numbers that give 0 to all of them give 1 another number: a design.
"""

from papersorliars.graded import products_of, products_over, united
from papersorliars.polys import stand_terms
from papersorliars.spaces import Space, annihilator
from papersorliars.stands import denied, free_names


def row_stand(wish, product):
    """The stand that just breaks the wish and answers the names of the product 1."""
    return tuple(sorted(denied(wish) + tuple([(name, 1) for name in product])))


def row_products(book, wish, bound):
    """The products with which the wish has at most the degree of the bound, in graded order."""
    return products_over(free_names(book.names, wish), bound - len(wish))


def vector_of(places, terms):
    """The vector of the terms of a polynomial, by the places of their products."""
    found = [0] * len(places)
    for product, number in terms:
        found[places[product]] = number
    return found


def multiple_of(products, places, vector, name):
    """The vector of the name times the polynomial of a vector, if all products of it have a place."""
    found = [0] * len(vector)
    for place, number in enumerate(vector):
        if number != 0:
            goal = places[united(products[place], (name,))]
            found[goal] = found[goal] + number
    return found


def product_places(products):
    """For each product its place in the row."""
    return {product: place for place, product in enumerate(products)}


class SumSearch:
    """The search for one book, one field and one bound."""

    def __init__(self, book, field, bound):
        self.field = field
        self.products = products_of(book.names, bound)
        self.space = Space(field)
        # The products, indexes and vectors of rows none of which the others give.
        self.rows = []
        self.vectors = []
        self.read_rows(book, bound)

    def read_rows(self, book, bound):
        """Reads the rows of all wishes, until there is a sum."""
        places = product_places(self.products)
        seen = {}
        for index, wish in enumerate(book.wishes):
            for product in row_products(book, wish, bound):
                stand = row_stand(wish, product)
                if stand not in seen and not self.found():
                    seen[stand] = True
                    self.read_row(product, index, vector_of(places, stand_terms(stand)))

    def read_row(self, product, index, vector):
        """Keeps the row if the rows so far do not give it."""
        if self.space.take(vector) is not None:
            self.rows.append((product, index))
            self.vectors.append(vector)

    def found(self):
        """Whether the rows give a constant, so that there is a sum."""
        return 0 in self.space.rows

    def paper(self):
        """The sum that the search found."""
        # The unknown numbers are the total, which is at the place 0, and those of the rows.
        system = Space(self.field)
        for place in range(len(self.products)):
            total = -1 if place == 0 else 0
            system.take([total] + [vector[place] for vector in self.vectors])
        numbers = annihilator(self.field, system.basis(), 0, len(self.rows) + 1)
        rows = []
        for number, (product, index) in zip(numbers[1:], self.rows):
            if number != 0:
                rows.append((number, product, index))
        return (numbers[0], tuple(rows))

    def design(self):
        """The design, if there is no sum."""
        numbers = annihilator(self.field, self.space.basis(), 0, len(self.products))
        return tuple(zip(self.products, numbers))
