"""Families of books: chains and full books, with their papers and objects."""

from papersorliars.books import Book
from papersorliars.chancesearch import due_stands
from papersorliars.errors import BadNames, NoLiar
from papersorliars.linetrees import tree_lines
from papersorliars.masks import broken_indexes
from papersorliars.stands import denied, stands_of
from papersorliars.unrolling import flat_lines

MOST_CHAINED = 40
MOST_FULL = 6
MOST_FULL_CHANCED = 4


def check_size(size, least, most):
    """Raises BadNames for a size that is not from `least` to `most`."""
    if size < least or size > most:
        raise BadNames(size)


def link(size, at):
    """The wish of the chain that is broken if the name `at` is answered 1 and the next one 0.

    There are no names before the first one and behind the last one; they count as answered 1 and 0.
    """
    words = ((at, 0), (at + 1, 1))
    return tuple([word for word in words if 1 <= word[0] <= size])


def chain(size):
    """The chain of the size."""
    check_size(size, 1, MOST_CHAINED)
    return Book(size, [link(size, at) for at in range(size + 1)])


def link_indexes(size):
    """For each link of the chain its index."""
    indexes = {wish: index for index, wish in enumerate(chain(size).wishes)}
    return [indexes[link(size, at)] for at in range(size + 1)]


def chain_tree(size):
    """A tree of questions for the chain with as few leaves as possible, and as little depth."""
    return tree_between(link_indexes(size), 0, size + 1)


def tree_between(indexes, low, high):
    """The tree where the name `low` is answered 1 and the name `high` 0."""
    if high == low + 1:
        return ("leaf", indexes[low])
    name = (low + high) // 2
    return ("ask", name, tree_between(indexes, low, name), tree_between(indexes, name, high))


def chain_lines(size):
    """A paper in the manner of kept answers for the chain that asks its names from the last one down."""
    indexes = link_indexes(size)
    rows = []
    for name in range(size, 0, -1):
        line = ((name - 1, 0),) if name > 1 else ()
        right = ("line", len(rows) - 1) if rows else ("wish", indexes[size])
        rows.append((line, name, ("wish", indexes[name - 1]), right))
    return tuple(rows)


def chain_alone(size):
    """Yields for each wish of the chain the filling that breaks this wish alone."""
    book = chain(size)
    for wish in book.wishes:
        # A word (x, 0) denied says that x and all names before it are answered 1.
        ones = max([name if value == 0 else name - 1 for name, value in wish])
        yield tuple([(name, 1 if name <= ones else 0) for name in range(1, size + 1)])


def chain_keep(size):
    """The object of the liar for kept answers against the bound 0."""
    check_size(size, 2, MOST_CHAINED)
    wishes = chain(size).wishes
    stands = list(stands_of(size, 1))
    return tuple([stand for stand in stands if broken_indexes(wishes, stand) == ()])


def full(size):
    """The full book of the size."""
    check_size(size, 0, MOST_FULL)
    return Book(size, [stand for stand in list(stands_of(size, size)) if len(stand) == size])


def full_tree(size):
    """A tree of questions for the full book that asks all names."""
    indexes = {wish: index for index, wish in enumerate(full(size).wishes)}
    return full_node(size, indexes, ())


def full_node(size, indexes, way):
    """The node of the tree for the full book with this way."""
    if len(way) == size:
        return ("leaf", indexes[denied(way)])
    name = len(way) + 1
    first = full_node(size, indexes, way + ((name, 0),))
    return ("ask", name, first, full_node(size, indexes, way + ((name, 1),)))


def full_lines(size):
    """A paper in the manner of kept answers for the full book."""
    book = full(size)
    return flat_lines(book, tree_lines(book, full_tree(size)))


def full_chances(size, bound):
    """Chances of the bound for the full book: for each stand the number of fillings that contain it."""
    check_size(size, 0, MOST_FULL_CHANCED)
    if bound >= size:
        raise NoLiar(bound)
    return tuple([(stand, 1 << (size - len(stand))) for stand in due_stands(size, bound)])
