"""The manner of leaves: the least number of leaves, the tree, and the shares of the liar."""

from papersorliars.search import is_within, least_numbers, tree_within
from papersorliars.shares import due_entries
from papersorliars.stands import with_answer


def joined_leaves(first, second):
    """The leaves of a node by the leaves of its sides."""
    return first + second


def leaf_numbers(book):
    """For each stand the least number of leaves for the book narrowed by it, or None."""
    return least_numbers(book, 1, joined_leaves)


def least_leaves(book):
    """The least number of leaves of a right tree, or None."""
    return leaf_numbers(book)[()]


def leaf_tree(book, bound):
    """A right tree with at most this many leaves, or None."""
    return tree_within(book, leaf_numbers(book), joined_leaves, bound)


def share_liar(book, bound):
    """The row of shares against the bound, or None if there is a tree within it."""
    return shares_against(book, leaf_numbers(book), bound)


def shares_against(book, numbers, bound):
    """The row of shares by the least numbers of leaves, or None if there is a tree within the bound."""
    if is_within(numbers[()], bound):
        return None
    rows = []
    for stand, name in due_entries(book):
        sides = [numbers[with_answer(stand, name, answer)] for answer in (0, 1)]
        shares = tuple([side if is_within(side, bound) else bound + 1 for side in sides])
        rows.append(((stand, name), shares))
    return tuple(rows)


def leaf_either(book, bound):
    """("paper", tree) with a tree within the bound, or ("liar", shares)."""
    numbers = leaf_numbers(book)
    shares = shares_against(book, numbers, bound)
    if shares is None:
        return ("paper", tree_within(book, numbers, joined_leaves, bound))
    return ("liar", shares)
