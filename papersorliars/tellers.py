"""Tellers, the objects of liars against steps: the check, and the design that they give."""

from papersorliars.designs import number_given
from papersorliars.errors import BadLiar
from papersorliars.fields import check_size_and_field, in_field
from papersorliars.graded import graded_key, is_product_of, products_of, united
from papersorliars.roomsearch import RoomSearch
from papersorliars.spaces import Space, annihilator
from papersorliars.stands import denied


def tellers(book, field, bound):
    """Tellers that give 0 to the closed room and to nothing else, or None if the room contains 1."""
    check_size_and_field(book.names, field)
    search = RoomSearch(book, field, bound)
    if search.has_one():
        return None
    basis = search.space.basis()
    found = []
    for place in range(len(search.products)):
        if place not in basis:
            numbers = annihilator(field, basis, place, len(search.products))
            found.append(tuple([pair for pair in zip(search.products, numbers) if pair[1] != 0]))
    return tuple(found)


def tellers_fault(book, field, bound, rows):
    """The first fault of tellers, or None."""
    check_size_and_field(book.names, field)
    for at, teller in enumerate(rows):
        if not is_teller(book, field, bound, teller):
            return (at, "form")
    for at, teller in enumerate(rows):
        index = told_wish(book, field, bound, dict(teller))
        if index is not None:
            return ((at, index), "wish")
    if not any([() in dict(teller) for teller in rows]):
        return (len(rows), "one")
    name = open_name(book, field, bound, rows)
    return None if name is None else (name, "open")


def is_teller(book, field, bound, teller):
    """Whether the row of pairs has products of the book in graded order, with numbers that are not 0."""
    before = None
    for product, number in teller:
        if not is_product_of(book.names, product) or len(product) > bound:
            return False
        if before is not None and graded_key(product) <= graded_key(before):
            return False
        if in_field(field, number) == 0:
            return False
        before = product
    return True


def told_wish(book, field, bound, numbers):
    """The index of the first wish within the bound whose polynomial does not get 0, or None."""
    for index, wish in enumerate(book.wishes):
        if len(wish) <= bound and number_given(field, numbers, denied(wish)) != 0:
            return index
    return None


def open_name(book, field, bound, rows):
    """The least name by which the room of the polynomials that get 0 is not closed, or None."""
    # All polynomials below the bound that get 0 give 0 with a vector exactly if the tellers give the vector.
    products = products_of(book.names, bound - 1)
    tables = [dict(teller) for teller in rows]
    space = Space(field)
    for numbers in tables:
        space.take([numbers.get(product, 0) for product in products])
    for name in range(1, book.names + 1):
        for numbers in tables:
            if not space.holds([numbers.get(united(product, (name,)), 0) for product in products]):
                return name
    return None


def teller_design(book, field, bound, rows):
    """The design that the first teller with the product of no names gives."""
    fault = tellers_fault(book, field, bound, rows)
    if fault is not None:
        raise BadLiar(fault[0], fault[1])
    numbers = [dict(teller) for teller in rows if () in dict(teller)][0]
    return tuple([(product, in_field(field, numbers.get(product, 0))) for product in products_of(book.names, bound)])
