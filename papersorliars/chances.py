"""Chances, the objects of liars in the manner of chances: the check, the least bound, and chances or weights."""

from papersorliars.chancesearch import ChanceSearch, due_stands
from papersorliars.errors import BadLiar
from papersorliars.limits import check_chanced
from papersorliars.masks import is_broken, row_mask, wish_masks
from papersorliars.stands import free_names, with_answer


def chance_either(book, bound):
    """("paper", weights) or ("liar", chances) of the bound."""
    check_chanced(book.names)
    search = ChanceSearch(book, bound)
    return ("paper", search.paper()) if search.found() else ("liar", search.chances_left())


def chances(book, bound):
    """Chances of the bound, or None."""
    check_chanced(book.names)
    search = ChanceSearch(book, bound)
    return None if search.found() else search.chances_left()


def least_chance(book):
    """The least bound with weights, or None if the book is kept."""
    check_chanced(book.names)
    for bound in range(book.names + 1):
        if ChanceSearch(book, bound).found():
            return bound
    return None


def chances_fault(book, bound, rows):
    """The first fault of chances, or None."""
    check_chanced(book.names)
    due = due_stands(book.names, bound)
    for at in range(max(len(rows), len(due))):
        if at >= len(rows) or at >= len(due) or rows[at][0] != due[at]:
            return (at, "row")
    masks = wish_masks(book.wishes)
    for at, (stand, number) in enumerate(rows):
        if number < 0:
            return (at, "below")
        if number != 0 and is_broken(masks, row_mask(stand)):
            return (at, "broken")
    if rows[0][1] == 0:
        return (0, "total")
    return split_fault(book.names, bound, rows)


def split_fault(names, bound, rows):
    """The fault of the first stand and name whose numbers are not those of both answers, or None."""
    numbers = dict(rows)
    for stand, number in rows:
        if len(stand) < min(bound, names):
            for name in free_names(names, stand):
                sides = [numbers[with_answer(stand, name, answer)] for answer in (0, 1)]
                if number != sides[0] + sides[1]:
                    return ((stand, name), "split")
    return None


def check_chances(book, bound, rows):
    """Raises BadLiar with the fault of chances."""
    fault = chances_fault(book, bound, rows)
    if fault is not None:
        raise BadLiar(fault[0], fault[1])
