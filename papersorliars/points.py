"""The manner of points: branching numbers, the tree, and the tables of points."""

from papersorliars.errors import BadLiar
from papersorliars.masks import is_broken, pair_mask, row_mask, wish_masks
from papersorliars.search import is_within, least_numbers, tree_within
from papersorliars.stands import free_names, is_right_row


def branching(tree):
    """The branching number of a tree or a line tree."""
    # In both, the two sides of a node stand at its end, and a leaf has two items only.
    if len(tree) == 2:
        return 0
    return joined_points(branching(tree[-2]), branching(tree[-1]))


def joined_points(first, second):
    """The branching number of a node by those of its sides."""
    return first + 1 if first == second else max(first, second)


def point_numbers(book):
    """For each stand the least branching number for the book narrowed by it, or None."""
    return least_numbers(book, 0, joined_points)


def least_points(book):
    """The least branching number of a right tree, or None."""
    return point_numbers(book)[()]


def point_tree(book, bound):
    """A right tree whose branching number is at most the bound, or None."""
    return tree_within(book, point_numbers(book), joined_points, bound)


def point_table(book, bound):
    """The table of points against the bound, or None if there is a tree within it."""
    return table_against(point_numbers(book), bound)


def table_against(numbers, bound):
    """The table by the least branching numbers, or None if there is a tree within the bound."""
    if is_within(numbers[()], bound):
        return None
    # The number 0 is that of the broken stands alone, which have no entry.
    rows = [(stand, number) for stand, number in numbers.items() if number != 0]
    return tuple(sorted([(stand, number if is_within(number, bound) else bound + 1) for stand, number in rows]))


def point_either(book, bound):
    """("paper", tree) with a tree within the bound, or ("liar", table)."""
    numbers = point_numbers(book)
    rows = table_against(numbers, bound)
    if rows is None:
        return ("paper", tree_within(book, numbers, joined_points, bound))
    return ("liar", rows)


def point_table_fault(book, bound, rows):
    """The first fault of a table of points against the bound, or None."""
    fault = point_entry_fault(book, rows)
    if fault is not None:
        return fault
    points = {row_mask(stand): number for stand, number in rows}
    if points.get(row_mask(()), 0) < bound + 1:
        return ((), "empty")
    for stand, number in rows:
        if is_stuck_at(book.names, points, stand, number):
            return (stand, "stuck")
    return None


def point_entry_fault(book, rows):
    """The first fault of an entry by itself or by the one before it, or None."""
    masks = wish_masks(book.wishes)
    before = None
    for stand, number in rows:
        if not is_right_row(book.names, stand):
            return (stand, "stand")
        if before is not None and stand <= before:
            return (stand, "order")
        if number < 1:
            return (stand, "number")
        if is_broken(masks, row_mask(stand)):
            return (stand, "broken")
        before = stand
    return None


def is_stuck_at(names, points, stand, number):
    """Whether for some free name both numbers are less, and one of them by two or more."""
    held = row_mask(stand)
    for name in free_names(names, stand):
        first = points.get(held | pair_mask(name, 0), 0)
        second = points.get(held | pair_mask(name, 1), 0)
        if max(first, second) < number and min(first, second) < number - 1:
            return True
    return False


def table_stands(book, bound, rows):
    """The stands that are an object of a liar in the manner of depth, ascending."""
    fault = point_table_fault(book, bound, rows)
    if fault is not None:
        raise BadLiar(fault[0], fault[1])
    return tuple([stand for stand, number in rows if len(stand) <= bound < number + len(stand)])
