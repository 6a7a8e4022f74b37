"""Least numbers of right trees and greatest objects, by the words of the document, for the tests."""

import itertools

from papersorliars.books import Book
from tests.helpers import add, all_stands, broken, free


def deeper(first, second):
    return 1 + max(first, second)


def more(first, second):
    return first + second


def branched(first, second):
    return first + 1 if first == second else max(first, second)


def least_table(book, leaf, join):
    """For each stand the least number of a right tree of the book narrowed by it, or None if that is kept."""
    table = {}

    def least(stand):
        if stand not in table:
            found = []
            if broken(book, stand):
                found = [leaf]
            else:
                for name in free(book, stand):
                    sides = [least(add(stand, name, v)) for v in (0, 1)]
                    if None not in sides:
                        found.append(join(*sides))
            table[stand] = min(found) if found else None
        return table[stand]

    for stand in all_stands(book.names):
        least(stand)
    return table


def number_of(tree, leaf, join):
    """The number of a tree or a line tree."""
    if len(tree) == 2:
        return leaf
    return join(number_of(tree[-2], leaf, join), number_of(tree[-1], leaf, join))


def small_books():
    """All books of at most two names with up to three wishes, and some more."""
    for names in range(3):
        wishes = all_stands(names)
        for many in range(4):
            for rows in itertools.combinations(wishes, many):
                yield Book(names, rows)
    full = all_stands(2)
    for many in (4, 5, 8, 9):
        for rows in list(itertools.combinations(full, many))[::7]:
            yield Book(2, rows)


def bounds_around(measure):
    """Bounds to be asked for a book of this measure."""
    great = [10 ** 40 - 1, 10 ** 39 + 7]
    if measure is None:
        return [0, 1, 2, 7, *great]
    return sorted(set([0, max(measure - 1, 0), measure, measure + 1])) + great
