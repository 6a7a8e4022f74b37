"""Chances and weights for the tests: their faults by the words of the document, and spoiled ones."""

import itertools

from tests.helpers import NO_STANDS, add, all_fillings, all_stands, broken, right_row


def due_stands(book, bound):
    return all_stands(book.names, min(bound, book.names))


def is_wide(book, bound, stand):
    return right_row(book.names, stand) and len(stand) == min(bound, book.names)


def chances_fault(book, bound, rows):
    """The first fault by the words of points 100 and 101."""
    due = due_stands(book, bound)
    for k, (pair, stand) in enumerate(itertools.zip_longest(rows, due)):
        if pair is None or stand is None or pair[0] != stand:
            return (k, "row")
    for k, (stand, number) in enumerate(rows):
        if number < 0:
            return (k, "below")
        if broken(book, stand) and number != 0:
            return (k, "broken")
    numbers = dict(rows)
    if numbers[()] == 0:
        return (0, "total")
    for stand in due:
        if len(stand) < min(bound, book.names):
            for x in range(1, book.names + 1):
                if x not in [y for y, _ in stand]:
                    if numbers[stand] != numbers[add(stand, x, 0)] + numbers[add(stand, x, 1)]:
                        return ((stand, x), "split")
    return None


def weights_fault(book, bound, rows):
    """The first fault by the words of points 102 and 103."""
    for k, (stand, number) in enumerate(rows):
        if not is_wide(book, bound, stand):
            return (k, "stand")
        if k > 0 and not stand > rows[k - 1][0]:
            return (k, "order")
        if number == 0:
            return (k, "number")
        if not broken(book, stand) and number < 0:
            return (k, "below")
    sums = [sum(n for stand, n in rows if set(stand) <= set(filling)) for filling in all_fillings(book.names)]
    for filling, total in zip(all_fillings(book.names), sums):
        if not total < 0 or total != sums[0]:
            return (filling, "sum")
    return None


def spread(names, stand, size):
    """The row of point 105."""
    free = [x for x in range(1, names + 1) if x not in [y for y, _ in stand]]
    more = free[:min(size, names) - len(stand)]
    found = []
    for answers in itertools.product((0, 1), repeat=len(more)):
        found.append(tuple(sorted(stand + tuple(zip(more, answers)))))
    return tuple(sorted(found))


def collected_weights(names, bound, pairs):
    """The weights that the collected pairs give by point 106."""
    sums = {}
    for stand, number in pairs:
        for wide in spread(names, stand, bound):
            sums[wide] = sums.get(wide, 0) + number
    return tuple((stand, number) for stand, number in sorted(sums.items()) if number)


def counted(book, bound, fillings):
    """For each due stand the number of the fillings that contain it."""
    return tuple((s, sum(set(s) <= set(f) for f in fillings)) for s in due_stands(book, bound))


def spoiled_pairs(source, book, rows):
    """The row of pairs of a stand and a number with some places changed."""
    rows = list(rows)
    at = source.randint(0, max(len(rows) - 1, 0))
    deed = source.randint(0, 7)
    if deed == 0 or not rows:
        rows.insert(at, (source.choice(all_stands(book.names)), source.randint(-2, 2)))
    elif deed == 1:
        rows.pop(at)
    elif deed == 2:
        rows[at] = (rows[at][0], rows[at][1] + source.choice((-1, 1)))
    elif deed == 3:
        rows[at] = (rows[at][0], -rows[at][1])
    elif deed == 4:
        other = source.randint(0, len(rows) - 1)
        rows[at], rows[other] = rows[other], rows[at]
    elif deed == 5:
        rows[at] = (source.choice(NO_STANDS), rows[at][1])
    elif deed == 6:
        rows[at] = (rows[at][0], 0)
    else:
        rows.insert(at, rows[at])
    return tuple(rows)


def spoiled_together(source, book, bound, rows):
    """Chances whose numbers are changed along one filling, so that they still split; they may be no chances any more."""
    filling = source.choice(all_fillings(book.names))
    by = source.choice((-1, 1, 2))
    return tuple((s, n + by * (set(s) <= set(filling))) for s, n in rows)
