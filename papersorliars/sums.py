"""The manner of sums: the check, the degree, and the sum within a bound."""

from papersorliars.changes import filling_of
from papersorliars.errors import BadPaper
from papersorliars.fields import check_size_and_field, in_field
from papersorliars.graded import is_product_of
from papersorliars.limits import check_summed
from papersorliars.masks import row_mask
from papersorliars.polys import stand_terms
from papersorliars.sumsearch import SumSearch, row_stand
from papersorliars.trees import check_tree, ways


def sum_fault(book, field, paper, *, most=None):
    """The first fault of a sum, or None."""
    check_size_and_field(book.names, field)
    total, rows = paper
    for at, row in enumerate(rows):
        kind = sum_row_fault(book, field, row, most)
        if kind is not None:
            return (at, kind)
    if in_field(field, total) == 0:
        return (len(rows), "total")
    return None if adds_up(book, field, total, rows) else (len(rows), "sum")


def sum_row_fault(book, field, row, most):
    """The kind of the fault of one row, or None."""
    number, product, index = row
    if in_field(field, number) == 0:
        return "number"
    if not is_product_of(book.names, product):
        return "product"
    if index < 0 or index >= len(book.wishes):
        return "wish"
    wish = book.wishes[index]
    if any([name in product for name, _ in wish]):
        return "meets"
    return "degree" if most is not None and len(product) + len(wish) > most else None


def adds_up(book, field, total, rows):
    """Whether all rows together add up to the total."""
    # Polynomials without squares are equal exactly if they have the same values at all fillings.
    masks = [row_mask(row_stand(book.wishes[index], product)) for _, product, index in rows]
    for at in range(1 << book.names):
        held = row_mask(filling_of(book.names, at))
        numbers = [row[0] for row, mask in zip(rows, masks) if (held & mask) == mask]
        if in_field(field, sum(numbers) - total) != 0:
            return False
    return True


def check_sum(book, field, paper):
    """Raises BadPaper with the fault of a sum."""
    fault = sum_fault(book, field, paper)
    if fault is not None:
        raise BadPaper(fault[0], fault[1])


def sum_degree(book, paper):
    """The degree of a sum that is right."""
    check_summed(book.names)
    return max([len(product) + len(book.wishes[index]) for _, product, index in paper[1]], default=0)


def sum_paper(book, field, bound):
    """A sum of at most this degree, or None."""
    check_size_and_field(book.names, field)
    search = SumSearch(book, field, bound)
    return search.paper() if search.found() else None


def least_sum(book, field):
    """The least degree of a sum, or None if the book is kept."""
    check_size_and_field(book.names, field)
    for bound in range(book.names + 1):
        if SumSearch(book, field, bound).found():
            return bound
    return None


def sum_either(book, field, bound):
    """("paper", sum) with a sum of at most this degree, or ("liar", design)."""
    check_size_and_field(book.names, field)
    search = SumSearch(book, field, bound)
    return ("paper", search.paper()) if search.found() else ("liar", search.design())


def tree_sum(book, field, tree):
    """A sum from a right tree: the polynomials of the ways of its leaves."""
    check_size_and_field(book.names, field)
    check_tree(book, tree)
    numbers = {}
    for way, index in list(ways(tree)):
        names = dict(book.wishes[index])
        for product, number in stand_terms([pair for pair in way if pair[0] not in names]):
            place = (product, index)
            numbers[place] = in_field(field, numbers.get(place, 0) + number)
    rows = [(number, product, index) for (product, index), number in numbers.items() if number != 0]
    return (1, tuple(rows))
