"""What the tests have in common: checks of errors and of values, and books made by a seeded source.

What a test expects is written down here by the words of the document, without the program's own functions.
"""

import itertools
import random

from papersorliars import errors
from papersorliars.books import Book

FIELDS = {
    "BadNames": ("names",), "BadWish": ("index",), "TooMany": ("many",), "BadStand": ("stand",),
    "BadName": ("name",), "BadOrder": ("order",), "BadText": ("at",), "TooLarge": ("size", "limit"),
    "NoLiar": ("bound",), "BadField": ("field",), "BadPaper": ("place", "kind"), "BadLiar": ("place", "kind"),
    "BadWeb": ("kind",), "BadManner": ("manner",), "BadArrow": ("kind", "goal"), "NoBook": ("name",),
    "BadEntry": ("index",),
}

# Rows that are no stands over three names.
NO_STANDS = [
    ((0, 0),), ((-1, 1),), ((4, 0),), ((1, 2),), ((1, -1),), ((1, 0), (1, 0)), ((1, 0), (1, 1)),
    ((2, 0), (1, 0)), ((1, 1), (3, 0), (2, 0)), ((1, 0), (2, 1), (4, 1)), ((1, 0), (2, 7)), ((10 ** 40, 0),),
]


def told(call, *args, **named):
    """What the call returns, or the error that it raises as (name of its class, attributes ..)."""
    try:
        value = call(*args, **named)
    except errors.BookError as error:
        kind = error.__class__.__name__
        return ("raised", kind) + tuple(getattr(error, field) for field in FIELDS[kind])
    return value


def raised(kind, *values):
    """What `told` tells of an error."""
    return ("raised", kind) + values


def plain(value):
    """Whether the value consists of tuples, short integers and words alone, down to its last item."""
    if isinstance(value, tuple):
        return type(value) is tuple and all(plain(item) for item in value)
    return type(value) is int and abs(value) < 10 ** 200 or type(value) is str and value.isalpha() and value.islower()


def all_stands(names, most=None):
    """All stands over the names, sorted."""
    found = []
    for answers in itertools.product((None, 0, 1), repeat=names):
        stand = tuple((x, v) for x, v in enumerate(answers, 1) if v is not None)
        if most is None or len(stand) <= most:
            found.append(stand)
    return sorted(found)


def all_fillings(names):
    return [tuple(enumerate(answers, 1)) for answers in itertools.product((0, 1), repeat=names)]


def right_row(names, row):
    asked = [x for x, _ in row]
    return asked == sorted(set(asked)) and all(1 <= x <= names and v in (0, 1) for x, v in row)


def against(stand, wish):
    """Whether the stand breaks the wish."""
    return all((x, 1 - v) in stand for x, v in wish)


def broken(book, stand):
    return any(against(stand, wish) for wish in book.wishes)


def add(stand, name, answer):
    return tuple(sorted(stand + ((name, answer),)))


def free(book, stand):
    held = [x for x, _ in stand]
    return [x for x in range(1, book.names + 1) if x not in held]


def kept(book):
    return any(not broken(book, filling) for filling in all_fillings(book.names))


def full_book(size):
    """All wishes with `size` words over `size` names."""
    return Book(size, all_fillings(size))


def chain_book(size):
    """The wishes 1+, 1- 2+, 2- 3+ and so on, and the last name with -."""
    wishes = [((1, 1),)] + [((j, 0), (j + 1, 1)) for j in range(1, size)] + [((size, 0),)]
    return Book(size, wishes)


def random_wish(source, names, least=0, most=None):
    words = source.randint(min(least, names), names if most is None else min(most, names))
    return tuple(sorted((x, source.randint(0, 1)) for x in source.sample(range(1, names + 1), words)))


def random_book(source, names, wishes, least=1, most=None):
    return Book(names, [random_wish(source, names, least, most) for _ in range(wishes)])


def sample_books(seed, many, most_names=3):
    """Books of every kind: kept ones and others, with the empty wish, without wishes, without names."""
    source = random.Random(seed)
    found = [
        Book(0, []), Book(0, [()]), Book(1, []), Book(1, [()]), Book(1, [((1, 0),)]),
        Book(1, [((1, 0),), ((1, 1),)]), Book(2, [(), ((1, 0),)]), chain_book(2), full_book(2),
        Book(2, [((1, 1),), ((1, 0), (2, 1)), ((2, 0),)]), chain_book(3), full_book(3), Book(3, []),
    ]
    while len(found) < many:
        names = source.randint(1, most_names)
        found.append(random_book(source, names, source.randint(1, 2 ** names + 1), source.randint(0, 9) and 1))
    return found[:many]


def random_tree(source, book, asked=()):
    """A right tree of the book at the stand, made by chance, or None if some filling keeps the book."""
    indexes = [k for k, wish in enumerate(book.wishes) if against(asked, wish)]
    names = free(book, asked)
    if indexes and (not names or source.random() < 0.8):
        return ("leaf", source.choice(indexes))
    if not names:
        return None
    name = source.choice(names)
    sides = [random_tree(source, book, add(asked, name, v)) for v in (0, 1)]
    return None if None in sides else ("ask", name, *sides)


def leaf_ways(tree, way=()):
    """The pairs of way and index of the leaves, by the words of the document."""
    if tree[0] == "leaf":
        return [(way, tree[1])]
    found = []
    for answer in (0, 1):
        found += leaf_ways(tree[2 + answer], add(way, tree[1], answer))
    return found


def wrong_tree(source, names, wishes, deep):
    """A tree with any names and indexes, some of them wrong."""
    if deep == 0 or source.random() < 0.3:
        return ("leaf", source.randint(-1, wishes))
    sides = [wrong_tree(source, names, wishes, deep - 1) for _ in (0, 1)]
    name = source.choice((0, names + 1)) if source.random() < 0.1 else source.randint(1, max(names, 1))
    return ("ask", name, *sides)


def spoiled_stands(source, book, stands):
    """The row of stands with some places changed."""
    stands = list(stands)
    for _ in range(source.randint(1, 2)):
        at = source.randint(0, len(stands))
        deed = source.randint(0, 4)
        if deed == 0 and stands:
            stands.pop(at % len(stands))
        elif deed == 1:
            stands.insert(at, source.choice(NO_STANDS))
        elif deed == 2:
            stands = sorted(set(stands) | {source.choice(all_stands(book.names))})
        elif deed == 3 and stands:
            stands.insert(at, source.choice(stands))
        else:
            stands = [stand for stand in stands if stand]
    return tuple(stands)
