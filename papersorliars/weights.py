"""Weights, the papers of the manner of chances: the check, and those of a book; and spread stands."""

from papersorliars.chancesearch import ChanceSearch, wide_stands
from papersorliars.changes import filling_of
from papersorliars.errors import BadStand
from papersorliars.limits import check_chanced
from papersorliars.masks import is_broken, row_mask, wish_masks
from papersorliars.stands import free_names, is_right_row, with_answer


def spread(names, stand, size):
    """The stands with the answers of the stand and each answer to the least names that are free at it."""
    check_chanced(names)
    most = min(size, names)
    if not is_right_row(names, stand) or len(stand) > most:
        raise BadStand(stand)
    found = [stand]
    for name in free_names(names, stand)[:most - len(stand)]:
        found = [with_answer(less, name, answer) for less in found for answer in (0, 1)]
    return tuple(sorted(found))


def weights(book, bound):
    """Weights of the bound, or None."""
    check_chanced(book.names)
    search = ChanceSearch(book, bound)
    return search.paper() if search.found() else None


def weights_fault(book, bound, rows):
    """The first fault of weights, or None."""
    check_chanced(book.names)
    wide = {stand: True for stand in wide_stands(book.names, bound)}
    masks = wish_masks(book.wishes)
    before = None
    for at, (stand, number) in enumerate(rows):
        if stand not in wide:
            return (at, "stand")
        if before is not None and stand <= before:
            return (at, "order")
        if number == 0:
            return (at, "number")
        if number < 0 and not is_broken(masks, row_mask(stand)):
            return (at, "below")
        before = stand
    return filling_fault(book.names, rows)


def filling_fault(names, rows):
    """The fault of the first filling with a wrong sum, or None."""
    masks = [row_mask(stand) for stand, _ in rows]
    first = None
    for number in range(1 << names):
        filling = filling_of(names, number)
        held = row_mask(filling)
        total = sum([row[1] for row, mask in zip(rows, masks) if (held & mask) == mask])
        first = total if first is None else first
        if total >= 0 or total != first:
            return (filling, "sum")
    return None
