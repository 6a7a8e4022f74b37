"""Designs, the objects of liars against sums: the check, and the objects made of them."""

from papersorliars.errors import BadLiar
from papersorliars.fields import check_size_and_field, in_field
from papersorliars.graded import products_of
from papersorliars.polys import stand_terms
from papersorliars.stands import stands_of
from papersorliars.sumsearch import SumSearch, row_products, row_stand


def design(book, field, bound):
    """A design, or None if there is a sum of at most the degree of the bound."""
    check_size_and_field(book.names, field)
    search = SumSearch(book, field, bound)
    return None if search.found() else search.design()


def design_fault(book, field, bound, rows):
    """The first fault of a design, or None."""
    check_size_and_field(book.names, field)
    due = products_of(book.names, bound)
    for at in range(max(len(rows), len(due))):
        if at >= len(rows) or at >= len(due) or rows[at][0] != due[at]:
            return (at, "row")
    if in_field(field, rows[0][1]) == 0:
        return (0, "one")
    numbers = dict(rows)
    for index, wish in enumerate(book.wishes):
        for product in row_products(book, wish, bound):
            if number_given(field, numbers, row_stand(wish, product)) != 0:
                return ((product, index), "wish")
    return None


def number_given(field, numbers, stand):
    """The number that the numbers of products give to the polynomial of the stand."""
    return in_field(field, sum([number * numbers.get(product, 0) for product, number in stand_terms(stand)]))


def check_design(book, field, bound, rows):
    """Raises BadLiar with the fault of a design."""
    fault = design_fault(book, field, bound, rows)
    if fault is not None:
        raise BadLiar(fault[0], fault[1])


def design_liar(book, field, bound, rows):
    """The object for depth: the stands whose polynomial gets a number other than 0."""
    check_design(book, field, bound, rows)
    numbers = dict(rows)
    stands = list(stands_of(book.names, bound))
    return tuple([stand for stand in stands if number_given(field, numbers, stand) != 0])


def joined_design(book, other, field, bound, rows, others):
    """The design for the two books side by side."""
    names = book.names + other.names
    check_size_and_field(names, field)
    check_design(book, field, bound, rows)
    check_design(other, field, bound, others)
    firsts = dict(rows)
    seconds = dict(others)
    found = []
    for product in products_of(names, bound):
        first = tuple([name for name in product if name <= book.names])
        second = tuple([name - book.names for name in product if name > book.names])
        found.append((product, in_field(field, firsts[first] * seconds[second])))
    return tuple(found)
