"""Narrowed, renamed and turned books, and the fillings that keep a book."""

from papersorliars.books import Book
from papersorliars.errors import BadOrder
from papersorliars.limits import check_searched
from papersorliars.masks import is_broken, row_mask, wish_masks
from papersorliars.stands import check_stand


def narrowed(book, stand):
    """The book narrowed by the stand."""
    check_stand(book.names, stand)
    return Book(book.names, [wish for wish in narrowed_wishes(book, stand) if wish is not None])


def narrowed_wishes(book, stand):
    """For each wish what is left of it at the stand, or None if the stand meets a word of it."""
    answers = dict(stand)
    return [narrowed_wish(wish, answers) for wish in book.wishes]


def narrowed_wish(wish, answers):
    """The words of the wish that the answers do not deny, or None if they meet one."""
    for name, value in wish:
        if name in answers and answers[name] == value:
            return None
    return tuple([(name, value) for name, value in wish if name not in answers])


def renamed(book, order):
    """The book renamed by the order."""
    check_order(book, order)
    return Book(book.names, [renamed_row(wish, order) for wish in book.wishes])


def turned(book, names):
    """The book turned at the names."""
    check_names(book, names)
    return Book(book.names, [turned_row(wish, names) for wish in book.wishes])


def check_order(book, order):
    """Raises BadOrder if the row is not an order of the book."""
    if sorted(order) != list(range(1, book.names + 1)):
        raise BadOrder(order)


def check_names(book, names):
    """Raises BadOrder if the row is not an ascending row of names of the book."""
    last = 0
    for name in names:
        if name <= last or name > book.names:
            raise BadOrder(names)
        last = name


def renamed_row(row, order):
    """The renamed row of pairs."""
    return tuple(sorted([(order[name - 1], value) for name, value in row]))


def turned_row(row, names):
    """The turned row of pairs."""
    return tuple([(name, 1 - value if name in names else value) for name, value in row])


def fillings(book):
    """Yields all fillings that keep the book, in ascending order."""
    check_searched(book)
    masks = wish_masks(book.wishes)
    for number in range(1 << book.names):
        filling = filling_of(book.names, number)
        if not is_broken(masks, row_mask(filling)):
            yield filling


def filling_of(names, number):
    """The filling whose answers are the bits of the number, that of the name 1 being the highest."""
    return tuple([(name, (number >> (names - name)) & 1) for name in range(1, names + 1)])


def first_filling(book):
    """The first filling that keeps the book, or None."""
    for filling in fillings(book):
        return filling
    return None
