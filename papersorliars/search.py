"""The least numbers of right trees, for the book narrowed by each of its stands.

The manners of depth, leaves and points differ in two things only: the number of a leaf, and the number
of a node by the numbers of its sides. Both are passed, the second one as a function.
"""

from papersorliars.limits import check_searched
from papersorliars.masks import broken_indexes, is_broken, row_mask, wish_masks
from papersorliars.stands import free_names, stands_of, with_answer


def least_numbers(book, leaf, joined):
    """For each stand of the book the least number of a right tree of the narrowed book, or None."""
    check_searched(book)
    masks = wish_masks(book.wishes)
    numbers = {}
    for stand in by_length(book.names):
        if is_broken(masks, row_mask(stand)):
            numbers[stand] = leaf
        else:
            numbers[stand] = least_of(asked_numbers(book, numbers, joined, stand))
    return numbers


def by_length(names):
    """All stands over the names, those with more answers first, so that each comes behind its sides."""
    stands = list(stands_of(names, names))
    return sorted(stands, key=len, reverse=True)


def asked_numbers(book, numbers, joined, stand):
    """The pairs of a free name and the number of the node that asks it; None if a side has no tree."""
    found = []
    for name in free_names(book.names, stand):
        first = numbers[with_answer(stand, name, 0)]
        second = numbers[with_answer(stand, name, 1)]
        number = None if first is None or second is None else joined(first, second)
        found.append((name, number))
    return found


def least_of(found):
    """The least number of the pairs, or None."""
    return min([number for name, number in found if number is not None], default=None)


def is_within(number, bound):
    """Whether there is a tree whose least number is within the bound."""
    return number is not None and number <= bound


def tree_within(book, numbers, joined, bound):
    """A right tree of the book within the bound, or None."""
    if not is_within(numbers[()], bound):
        return None
    return least_tree(book, numbers, joined, ())


def least_tree(book, numbers, joined, stand):
    """A right tree of the least number, for the book narrowed by a stand that has a tree."""
    # A broken stand has the number of a leaf, which is less than that of each node: no name is found.
    for name, number in asked_numbers(book, numbers, joined, stand):
        if number == numbers[stand]:
            first = least_tree(book, numbers, joined, with_answer(stand, name, 0))
            return ("ask", name, first, least_tree(book, numbers, joined, with_answer(stand, name, 1)))
    return ("leaf", broken_indexes(book.wishes, stand)[0])
