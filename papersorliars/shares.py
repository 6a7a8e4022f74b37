"""Rows of shares: the check, and what plays pay.

A pay is a pair (top, bottom) in lowest terms.
"""

from math import gcd

from papersorliars.errors import BadLiar, BadName
from papersorliars.limits import check_searched
from papersorliars.masks import is_broken, row_mask, wish_masks
from papersorliars.search import by_length
from papersorliars.stands import free_names, stands_of, with_answer


def due_entries(book):
    """The pairs (stand, name) of the entries that a row of shares has, ascending."""
    masks = wish_masks(book.wishes)
    due = []
    for stand in list(stands_of(book.names, book.names)):
        if not is_broken(masks, row_mask(stand)):
            due.extend([(stand, name) for name in free_names(book.names, stand)])
    return due


def share_fault(book, rows, *, bound=None):
    """The first fault of a row of shares, or None."""
    check_searched(book)
    fault = entry_fault(book, rows)
    if fault is not None or bound is None:
        return fault
    pay = pays_from(book, dict(rows))[()]
    if pay is not None and pay[0] <= bound * pay[1]:
        return (len(rows), "pay")
    return None


def entry_fault(book, rows):
    """The first fault of the entries of a row of shares, or None."""
    due = due_entries(book)
    for at, (place, shares) in enumerate(rows):
        if at >= len(due) or place != due[at]:
            return (at, "row")
        if shares[0] < 1 or shares[1] < 1:
            return (at, "share")
    if len(rows) < len(due):
        return (len(rows), "row")
    return None


def check_shares(book, rows):
    """Raises BadLiar with the fault of a row of shares."""
    fault = share_fault(book, rows)
    if fault is not None:
        raise BadLiar(fault[0], fault[1])


def times(pay, shares, answer):
    """The pay times what a pair with these shares and this answer pays."""
    top = pay[0] * (shares[0] + shares[1])
    bottom = pay[1] * shares[answer]
    common = gcd(top, bottom)
    return (top // common, bottom // common)


def pays_from(book, shares):
    """For each stand the least that pairs from there to a broken stand pay, or None."""
    masks = wish_masks(book.wishes)
    pays = {}
    for stand in by_length(book.names):
        if is_broken(masks, row_mask(stand)):
            pays[stand] = (1, 1)
        else:
            pays[stand] = least_paid([pay for _, pay in paid_pairs(book, shares, pays, stand)])
    return pays


def paid_pairs(book, shares, pays, stand):
    """Each pair that may be next at the stand, ascending, with the least pay from the stand on by it."""
    found = []
    for name in free_names(book.names, stand):
        for answer in (0, 1):
            pay = pays[with_answer(stand, name, answer)]
            if pay is not None:
                found.append(((name, answer), times(pay, shares[(stand, name)], answer)))
    return found


def least_paid(pays):
    """The least of the pays, or None if there are none."""
    least = None
    for pay in pays:
        if least is None or pay[0] * least[1] < least[0] * pay[1]:
            least = pay
    return least


def least_pay(book, rows):
    """The least pay of a row of shares, or None."""
    check_shares(book, rows)
    return pays_from(book, dict(rows))[()]


def pay_of(book, rows, play):
    """What the play pays."""
    # The check of the shares comes behind that of the play, but a book that is too large goes ahead of both.
    check_searched(book)
    check_play(book, play)
    check_shares(book, rows)
    shares = dict(rows)
    pay = (1, 1)
    stand = ()
    for name, answer in play:
        pay = times(pay, shares[(stand, name)], answer)
        stand = with_answer(stand, name, answer)
    return pay


def check_play(book, play):
    """Raises BadName for the first pair of the row that cannot stand there in a play."""
    masks = wish_masks(book.wishes)
    stand = ()
    for name, answer in play:
        if name not in free_names(book.names, stand) or is_broken(masks, row_mask(stand)):
            raise BadName(name)
        stand = with_answer(stand, name, answer)


def cheapest_play(book, rows):
    """The first of the plays that end and pay the least pay, or None."""
    check_shares(book, rows)
    masks = wish_masks(book.wishes)
    shares = dict(rows)
    pays = pays_from(book, shares)
    if pays[()] is None:
        return None
    stand = ()
    pairs = []
    while not is_broken(masks, row_mask(stand)):
        found = paid_pairs(book, shares, pays, stand)
        name, answer = [pair for pair, pay in found if pay == pays[stand]][0]
        pairs.append((name, answer))
        stand = with_answer(stand, name, answer)
    return tuple(pairs)
