"""The search for chances and weights of a book.

Chances are numbers of the products of at most as many names as the bound: with them the polynomial of each
stand gets a number, 0 if the stand is broken, and none below 0. Weights are numbers of the wide stands whose
polynomials, multiplied by them and added, give a constant below 0. If there are none, the equations that
say so have a witness, which gives chances.
"""

from math import gcd

from papersorliars.graded import products_of
from papersorliars.masks import is_broken, row_mask, wish_masks
from papersorliars.pivoting import Tableau
from papersorliars.polys import stand_terms
from papersorliars.stands import stands_of
from papersorliars.sumsearch import product_places, vector_of


def due_stands(names, bound):
    """The stands of chances of the bound, ascending."""
    return list(stands_of(names, min(bound, names)))


def wide_stands(names, bound):
    """The wide stands, ascending."""
    return [stand for stand in due_stands(names, bound) if len(stand) == min(bound, names)]


class ChanceSearch:
    """The search for one book and one bound."""

    def __init__(self, book, bound):
        self.due = due_stands(book.names, bound)
        self.wide = wide_stands(book.names, bound)
        self.products = products_of(book.names, bound)
        places = product_places(self.products)
        masks = wish_masks(book.wishes)
        vectors = [vector_of(places, stand_terms(stand)) for stand in self.wide]
        # The polynomials shall give -1 at the product of no names; the tableau gives 1 there.
        columns = [[-vector[0]] + vector[1:] for vector in vectors]
        self.tableau = Tableau(columns, [is_broken(masks, row_mask(stand)) for stand in self.wide])
        self.tableau.solve()

    def found(self):
        """Whether there are weights."""
        return self.tableau.solved()

    def paper(self):
        """The weights, if there are some."""
        numbers = lowered(self.tableau.amounts())
        return tuple([pair for pair in zip(self.wide, numbers) if pair[1] != 0])

    def chances_left(self):
        """The chances, if there are no weights."""
        told = self.tableau.witness()
        given = {product: -number for product, number in zip(self.products, told)}
        given[()] = told[0]
        sums = []
        for stand in self.due:
            sums.append(sum([number * given[product] for product, number in stand_terms(stand)]))
        return tuple(zip(self.due, lowered(sums)))


def lowered(numbers):
    """The numbers, not all of them 0, divided by their greatest common divisor."""
    common = 0
    for number in numbers:
        common = gcd(common, number)
    return [number // common for number in numbers]
