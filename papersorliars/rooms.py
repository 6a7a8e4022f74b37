"""The closed room of a book: what steps within a bound can reach."""

from papersorliars.fields import check_size_and_field
from papersorliars.polys import Poly
from papersorliars.roomsearch import RoomSearch


def closed_room(book, field, bound):
    """The reduced basis of the closed room."""
    check_size_and_field(book.names, field)
    search = RoomSearch(book, field, bound)
    vectors = list(search.space.basis().values())
    return tuple([Poly(field, list(zip(search.products, vector))) for vector in vectors])
