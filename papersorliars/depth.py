"""The manner of depth: the least depth, the tree, and the objects of liars."""

from papersorliars.errors import BadLiar
from papersorliars.search import is_within, least_numbers, tree_within
from papersorliars.standrows import each_stand_fault, is_stuck, joined_stands, stands_by_mask
from papersorliars.stands import moved_row


def joined_depth(first, second):
    """The depth of a node by the depths of its sides."""
    return 1 + max(first, second)


def depth_numbers(book):
    """For each stand the least depth of the book narrowed by it, or None."""
    return least_numbers(book, 0, joined_depth)


def least_depth(book):
    """The least depth of the book, or None."""
    return depth_numbers(book)[()]


def depth_tree(book, bound):
    """A right tree of depth at most the bound, or None."""
    return tree_within(book, depth_numbers(book), joined_depth, bound)


def depth_liar(book, bound):
    """The greatest object for the bound, or None."""
    return greatest_object(depth_numbers(book), bound)


def greatest_object(numbers, bound):
    """The stands at which more questions are needed than the bound still allows, or None."""
    if is_within(numbers[()], bound):
        return None
    stands = [stand for stand in numbers if len(stand) <= bound]
    return tuple(sorted([stand for stand in stands if not is_within(numbers[stand], bound - len(stand))]))


def depth_either(book, bound):
    """("paper", tree) with a tree within the bound, or ("liar", stands) with the greatest object."""
    numbers = depth_numbers(book)
    stands = greatest_object(numbers, bound)
    if stands is None:
        return ("paper", tree_within(book, numbers, joined_depth, bound))
    return ("liar", stands)


def depth_liar_fault(book, bound, stands):
    """The first fault of an object of a liar, or None."""
    fault = each_stand_fault(book, bound, stands)
    if fault is not None:
        return fault
    if () not in stands:
        return ((), "empty")
    present = stands_by_mask(stands)
    for stand in stands:
        if len(stand) < bound and is_stuck(book.names, present, stand):
            return (stand, "stuck")
    return None


def check_depth_liar(book, bound, stands):
    """Raises BadLiar with the fault of an object of a liar."""
    fault = depth_liar_fault(book, bound, stands)
    if fault is not None:
        raise BadLiar(fault[0], fault[1])


def joined_depth_liar(book, other, bound, stands, others):
    """The object for the two books side by side."""
    # The new book is made first, since its errors go ahead of the faults.
    both = book + other
    check_depth_liar(book, bound, stands)
    check_depth_liar(other, bound, others)
    moved = [moved_row(stand, both.names - other.names) for stand in others]
    return joined_stands(stands, moved, bound)
