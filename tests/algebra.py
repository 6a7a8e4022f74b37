"""Polynomials, sums, designs and rooms by the words of the document, for the tests.

A polynomial is a dict from products to numbers here; over the field 0 the numbers may be fractions.
"""

import itertools
from fractions import Fraction

FIELDS = (0, 2, 3, 5, 7)
NO_FIELDS = (1, -1, 4, 6, 8, 9, 11, 13, -2, -3, 10 ** 40)
GREAT = 10 ** 40 - 1


def written(field, number):
    """The number as the field writes it."""
    return number if field == 0 else number % field


def graded(row):
    """The key of the graded order."""
    return (len(row), row)


def products(names, most):
    """All products of at most `most` of the names 1 to `names`, in graded order."""
    found = []
    for signs in itertools.product((0, 1), repeat=names):
        row = tuple(x for x, sign in enumerate(signs, 1) if sign)
        if len(row) <= most:
            found.append(row)
    return sorted(found, key=graded)


def clean(field, terms):
    return {row: written(field, number) for row, number in terms.items() if written(field, number) != 0}


def plus(field, first, second, times=1):
    """The first polynomial and `times` the second one, added."""
    terms = dict(first)
    for row, number in second.items():
        terms[row] = terms.get(row, 0) + times * number
    return clean(field, terms)


def multiplied(field, first, second):
    terms = {}
    for row, number in first.items():
        for other, factor in second.items():
            both = tuple(sorted({*row, *other}))
            terms[both] = terms.get(both, 0) + number * factor
    return clean(field, terms)


def value(field, terms, ones):
    """The value where exactly these names are answered 1."""
    return written(field, sum(number for row, number in terms.items() if set(row) <= set(ones)))


def stand_terms(field, stand):
    """The polynomial of a stand: x for (x, 1) and 1 - x for (x, 0), multiplied one by one."""
    terms = {(): 1}
    for x, v in stand:
        terms = multiplied(field, terms, {(x,): 1} if v else {(): 1, (x,): -1})
    return terms


def wish_terms(field, wish):
    return stand_terms(field, tuple((x, 1 - v) for x, v in wish))


def degree(terms):
    return max([len(row) for row in terms] + [0])


def is_product(names, row):
    return list(row) == sorted(set(row)) and all(1 <= x <= names for x in row)


def sum_fault(book, field, paper, most=None):
    """The first fault of a sum by the words of points 81 and 82."""
    total, rows = paper
    added = {}
    for at, (number, row, index) in enumerate(rows):
        if written(field, number) == 0:
            return (at, "number")
        if not is_product(book.names, row):
            return (at, "product")
        if index not in range(len(book.wishes)):
            return (at, "wish")
        wish = book.wishes[index]
        if set(row) & {x for x, _ in wish}:
            return (at, "meets")
        if most is not None and len(row) + len(wish) > most:
            return (at, "degree")
        added = plus(field, added, multiplied(field, {row: number}, wish_terms(field, wish)))
    if written(field, total) == 0:
        return (len(rows), "total")
    return None if added == {(): written(field, total)} else (len(rows), "sum")


def given(field, numbers, terms):
    """The number that the numbers of products give to a polynomial."""
    return written(field, sum(numbers.get(row, 0) * number for row, number in terms.items()))


def design_fault(book, field, bound, rows):
    """The first fault of a design by the words of points 83 and 84."""
    due = products(book.names, bound)
    for at, (row, other) in enumerate(itertools.zip_longest([row for row, _ in rows], due)):
        if row != other:
            return (at, "row")
    numbers = dict(rows)
    if written(field, numbers[()]) == 0:
        return (0, "one")
    for index, wish in enumerate(book.wishes):
        for row in products(book.names, bound - len(wish)):
            if not set(row) & {x for x, _ in wish}:
                if given(field, numbers, multiplied(field, {row: 1}, wish_terms(field, wish))) != 0:
                    return ((row, index), "wish")
    return None


def tellers_fault(book, field, bound, rows):
    """The first fault of tellers by the words of points 93 and 94."""
    for at, teller in enumerate(rows):
        told = [row for row, _ in teller]
        if told != sorted(set(told), key=graded) or any(written(field, number) == 0 for _, number in teller):
            return (at, "form")
        if any(not is_product(book.names, row) or len(row) > bound for row in told):
            return (at, "form")
    for at, teller in enumerate(rows):
        for index, wish in enumerate(book.wishes):
            if len(wish) <= bound and given(field, dict(teller), wish_terms(field, wish)) != 0:
                return ((at, index), "wish")
    if not any(row == () for teller in rows for row, _ in teller):
        return (len(rows), "one")
    lower = products(book.names, bound - 1)
    told = [[dict(teller).get(row, 0) for row in lower] for teller in rows]
    zeros = [dict(zip(lower, vector)) for vector in null_space(field, told, len(lower))]
    for name in range(1, book.names + 1):
        for terms in zeros:
            more = multiplied(field, terms, {(name,): 1})
            if any(given(field, dict(teller), more) != 0 for teller in rows):
                return (name, "open")
    return None


def reduced(field, vectors):
    """The reduced rows of the vectors, as a dict from the place of the first number other than 0."""
    found = {}
    for vector in vectors:
        vector = [Fraction(number) if field == 0 else number % field for number in vector]
        for place, row in found.items():
            vector = less(field, vector, row, vector[place])
        places = [place for place, number in enumerate(vector) if number != 0]
        if places:
            first = places[0]
            one = 1 / vector[first] if field == 0 else pow(vector[first], -1, field)
            row = [written(field, one * number) for number in vector]
            found = {place: less(field, other, row, other[first]) for place, other in found.items()}
            found[first] = row
    return found


def less(field, vector, row, times):
    return [written(field, number - times * other) for number, other in zip(vector, row)]


def null_space(field, vectors, size):
    """Vectors of this size that give 0 with each of the vectors and of which all others are made."""
    rows = reduced(field, vectors)
    found = []
    for free in range(size):
        if free not in rows:
            vector = [0] * size
            vector[free] = 1
            for place, row in rows.items():
                vector[place] = written(field, -row[free])
            found.append(vector)
    return found


def closed_room(book, field, bound):
    """The polynomials of point 89, as reduced rows over the products in the order from the last to the first."""
    places = products(book.names, bound)[::-1]
    rows = reduced(field, [
        [wish_terms(field, wish).get(row, 0) for row in places] for wish in book.wishes if len(wish) <= bound
    ])
    while True:
        more = []
        for row in rows.values():
            terms = {product: number for product, number in zip(places, row) if number != 0}
            if degree(terms) < bound:
                for name in range(1, book.names + 1):
                    grown = multiplied(field, terms, {(name,): 1})
                    more.append([grown.get(product, 0) for product in places])
        wider = reduced(field, [*rows.values(), *more])
        if len(wider) == len(rows):
            return [dict((p, n) for p, n in zip(places, row) if n != 0) for row in rows.values()]
        rows = wider


def has_sum(book, field, bound):
    """Whether the rows of sums of at most this degree add up to a constant other than 0."""
    places = products(book.names, bound)[::-1]
    vectors = []
    for wish in book.wishes:
        for row in products(book.names, bound - len(wish)):
            if not set(row) & {x for x, _ in wish}:
                terms = multiplied(field, {row: 1}, wish_terms(field, wish))
                vectors.append([terms.get(product, 0) for product in places])
    return len(places) - 1 in reduced(field, vectors)


def spoiled_terms(source, names, rows):
    """The row of pairs of a product and a number with some places changed."""
    rows = list(rows)
    for _ in range(source.randint(1, 2)):
        at = source.randint(0, max(len(rows) - 1, 0))
        deed = source.randint(0, 6)
        other = tuple(source.randint(-1, names + 1) for _ in range(source.randint(0, 3)))
        if deed == 0 or not rows:
            rows.insert(at, (other, source.randint(-3, 3)))
        elif deed == 1:
            rows.pop(at)
        elif deed == 2:
            rows[at] = (rows[at][0], source.randint(-8, 8))
        elif deed == 3:
            rows[at] = (tuple(sorted(set(other))), rows[at][1])
        elif deed == 4:
            two = source.randint(0, len(rows) - 1)
            rows[at], rows[two] = rows[two], rows[at]
        elif deed == 5:
            rows.append((tuple(sorted({x for x in other if 1 <= x <= names})), source.randint(1, 7)))
        else:
            rows[at] = (rows[at][0], rows[at][1] + 210 * source.randint(-2, 2))
    return tuple(rows)
