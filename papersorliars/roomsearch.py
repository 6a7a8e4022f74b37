"""The search for the closed room of a book over a field."""

from papersorliars.graded import products_of
from papersorliars.polys import stand_terms
from papersorliars.spaces import Space
from papersorliars.stands import denied
from papersorliars.sumsearch import multiple_of, product_places, vector_of


class RoomSearch:
    """The search for one book, one field and one bound."""

    def __init__(self, book, field, bound):
        self.products = products_of(book.names, bound)
        self.places = product_places(self.products)
        self.space = Space(field)
        self.queue = []
        for wish in book.wishes:
            if len(wish) <= bound:
                self.take(vector_of(self.places, stand_terms(denied(wish))))
        self.take_multiples(book.names, bound)

    def take(self, vector):
        """Adds the vector to the room; a new one is still to be multiplied."""
        row = self.space.take(vector)
        if row is not None:
            self.queue.append(row)

    def take_multiples(self, names, bound):
        """Adds the names times all vectors whose degree is less than the bound."""
        at = 0
        while at < len(self.queue):
            vector = self.queue[at]
            at = at + 1
            if self.degree_of(vector) < bound:
                for name in range(1, names + 1):
                    self.take(multiple_of(self.products, self.places, vector, name))

    def degree_of(self, vector):
        """The degree of a vector with terms."""
        return max([len(self.products[place]) for place, number in enumerate(vector) if number != 0])

    def has_one(self):
        """Whether the room contains 1."""
        return 0 in self.space.rows
