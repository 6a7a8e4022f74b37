"""Products of names, and their graded order."""

from itertools import combinations


def is_product(row):
    """Whether the row of integers has ascending names from 1."""
    last = 0
    for name in row:
        if name <= last:
            return False
        last = name
    return True


def is_product_of(names, row):
    """Whether the row of integers is a product of names from 1 to `names`."""
    return is_product(row) and (not row or row[-1] <= names)


def graded_key(row):
    """The key by which products stand in graded order."""
    return (len(row), row)


def united(first, second):
    """The product of two products, in which each name stands once."""
    return tuple(sorted(set(first + second)))


def products_over(names, most):
    """The products of at most `most` of the ascending names, in graded order; none if `most` is below 0."""
    found = []
    for size in range(min(len(names), most) + 1):
        found.extend(list(combinations(names, size)))
    return found


def products_of(names, most):
    """The products of at most `most` of the names 1 to `names`, in graded order."""
    return products_over(list(range(1, names + 1)), most)
