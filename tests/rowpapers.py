"""Rows of lines for the tests: their faults by the words of the document, and right ones made by chance."""

from tests.helpers import NO_STANDS, add, all_stands, right_row
from tests.linepapers import line_of, random_paper


def line_at(book, rows, source):
    """The line of a source."""
    return book.wishes[source[1]] if source[0] == "wish" else rows[source[1]][0]


def rows_fault(book, rows, end=(), most=None):
    """The first fault by the words of points 56 and 57."""
    for at, (line, name, left, right) in enumerate(rows):
        if not right_row(book.names, line):
            return (at, "line")
        if name not in range(1, book.names + 1):
            return (at, "name")
        if name in [x for x, _ in line]:
            return (at, "asked")
        for word, number in (left, right):
            if word not in ("wish", "line") or number not in range(len(book.wishes) if word == "wish" else at):
                return (at, "source")
        if set(line_at(book, rows, left)) - set(line) - {(name, 1)}:
            return (at, "left")
        if set(line_at(book, rows, right)) - set(line) - {(name, 0)}:
            return (at, "right")
        if most is not None and len(line) > most:
            return (at, "wide")
    lasts = [rows[-1][0]] if rows else book.wishes
    return None if any(set(line) <= set(end) for line in lasts) else (len(rows), "end")


def width_of(rows):
    return max([len(row[0]) for row in rows] + [0])


def flat(book, paper, source):
    """The rows of a line tree, each node behind its sides; a row may stand twice, and others are not needed."""
    rows = []

    def turned(node):
        if node[0] == "wish":
            return node
        left, right = turned(node[3]), turned(node[4])
        row = (node[2], node[1], left, right)
        if row in rows and source.random() < 0.5:
            return ("line", rows.index(row))
        if source.random() < 0.3:
            add_idle_row(source, book, rows)
        rows.append(row)
        return ("line", len(rows) - 1)

    turned(paper)
    return tuple(rows)


def add_idle_row(source, book, rows):
    """Adds a right row that nothing needs, if one is found by chance."""
    sources = [("wish", k) for k in range(len(book.wishes))] + [("line", k) for k in range(len(rows))]
    left, right = source.choice(sources), source.choice(sources)
    name = source.randint(1, max(book.names, 1))
    words = set(line_at(book, rows, left)) - {(name, 1)} | set(line_at(book, rows, right)) - {(name, 0)}
    if source.random() < 0.5 and book.names:
        words.add((source.randint(1, book.names), source.randint(0, 1)))
    line = tuple(sorted(words))
    if right_row(book.names, line) and name <= book.names and name not in [x for x, _ in line]:
        rows.append((line, name, left, right))


def random_rows(source, book, end=()):
    """Rows of lines without a fault for the end, or None if there are none."""
    paper = random_paper(source, book, end)
    if paper is None:
        return None
    assert set(line_of(book, paper)) <= set(end)
    return flat(book, paper, source)


def right_rows(source, books, times=3):
    """Pairs of a book that is not kept and a paper of it."""
    for book in books:
        for _ in range(times):
            rows = random_rows(source, book)
            if rows is not None:
                yield book, rows


def chain_rows(book):
    """The paper of a chain of two names or more that asks from the last name down; each line has at most one word."""
    index = {wish: k for k, wish in enumerate(book.wishes)}
    last = book.names
    rows = [(((last - 1, 0),), last, ("wish", index[((last - 1, 0), (last, 1))]), ("wish", index[((last, 0),)]))]
    for name in range(last - 1, 1, -1):
        left = ("wish", index[((name - 1, 0), (name, 1))])
        rows.append((((name - 1, 0),), name, left, ("line", len(rows) - 1)))
    rows.append(((), 1, ("wish", index[((1, 1),)]), ("line", len(rows) - 1)))
    return tuple(rows)


def some_ends(source, book):
    """Some stands over the names of the book, to be the end of rows of lines."""
    return source.sample(all_stands(book.names), min(3, 3 ** book.names))


def spoiled_rows(source, book, rows):
    """The rows with one place changed."""
    rows = list(rows)
    deed = source.randint(0, 9)
    at = source.randint(0, max(len(rows) - 1, 0))
    if not rows or deed == 0:
        line = source.choice(all_stands(book.names))
        rows.insert(at, (line, source.randint(0, book.names + 1), ("wish", 0), ("wish", 0)))
        return tuple(rows)
    line, name, left, right = rows[at]
    if deed == 1:
        line = source.choice(NO_STANDS)
    elif deed == 2:
        name = source.randint(0, book.names + 1)
    elif deed == 3 and name not in [x for x, _ in line]:
        line = add(line, name, source.randint(0, 1))
    elif deed == 4:
        left = (source.choice(("wish", "line", "leaf", "from")), source.randint(-1, max(len(book.wishes), at)))
    elif deed == 5:
        right = (source.choice(("wish", "line", "row")), source.randint(-1, max(len(book.wishes), at)))
    elif deed == 6:
        line = tuple(word for word in line if source.random() < 0.5)
    elif deed == 7:
        left, right = right, left
    elif deed == 8:
        rows.append(rows.pop(at))
        return tuple(rows)
    else:
        rows.pop()
        return tuple(rows)
    rows[at] = (line, name, left, right)
    return tuple(rows)
