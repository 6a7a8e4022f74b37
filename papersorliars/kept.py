"""The manner of kept answers: the least width, the paper, and the objects of liars."""

from papersorliars.errors import BadLiar
from papersorliars.keepsearch import KeepSearch
from papersorliars.limits import check_searched
from papersorliars.masks import pair_mask, row_mask
from papersorliars.standrows import each_stand_fault, is_stuck, joined_stands, stands_by_mask
from papersorliars.stands import moved_row


def least_kept(book):
    """The least width of a paper, or None if the book is kept."""
    check_searched(book)
    for bound in range(book.names + 1):
        if KeepSearch(book, bound).found():
            return bound
    return None


def kept_lines(book, bound):
    """A paper within the bound, or None."""
    check_searched(book)
    search = KeepSearch(book, bound)
    return search.paper() if search.found() else None


def keep_liar(book, bound):
    """The greatest object against the bound, or None."""
    check_searched(book)
    search = KeepSearch(book, bound)
    return None if search.found() else search.left()


def keep_either(book, bound):
    """("paper", rows) with a paper within the bound, or ("liar", stands) with the greatest object."""
    check_searched(book)
    search = KeepSearch(book, bound)
    return ("paper", search.paper()) if search.found() else ("liar", search.left())


def keep_liar_fault(book, bound, stands):
    """The first fault of an object against the bound, or None."""
    fault = each_stand_fault(book, bound + 1, stands)
    if fault is not None:
        return fault
    if () not in stands:
        return ((), "empty")
    present = stands_by_mask(stands)
    for stand in stands:
        if is_open(present, stand):
            return (stand, "open")
        if len(stand) <= bound and is_stuck(book.names, present, stand):
            return (stand, "stuck")
    return None


def is_open(present, stand):
    """Whether a stand with one answer less is not among those present."""
    held = row_mask(stand)
    return any([held - pair_mask(name, value) not in present for name, value in stand])


def check_keep_liar(book, bound, stands):
    """Raises BadLiar with the fault of an object against the bound."""
    fault = keep_liar_fault(book, bound, stands)
    if fault is not None:
        raise BadLiar(fault[0], fault[1])


def joined_keep_liar(book, other, bound, stands, others):
    """The object for the two books side by side."""
    # The new book is made first, since its errors go ahead of the faults.
    both = book + other
    check_keep_liar(book, bound, stands)
    check_keep_liar(other, bound, others)
    moved = [moved_row(stand, both.names - other.names) for stand in others]
    return joined_stands(stands, moved, bound + 1)
