"""Rows of lines: the check and the width."""

from papersorliars.errors import BadPaper
from papersorliars.linetrees import asked_line_fault, has_words, sides_fault


def lines_fault(book, rows, end=(), *, most=None):
    """The first fault of rows of lines, or None."""
    for at, row in enumerate(rows):
        kind = row_fault(book, rows, at)
        if kind is None and most is not None and len(row[0]) > most:
            kind = "wide"
        if kind is not None:
            return (at, kind)
    if not ends_within(book, rows, end):
        return (len(rows), "end")
    return None


def row_fault(book, rows, at):
    """The kind of the fault of one row behind rows without a fault, or None."""
    line, name, left, right = rows[at]
    kind = asked_line_fault(book, line, name)
    if kind is not None:
        return kind
    if not is_source(book, at, left) or not is_source(book, at, right):
        return "source"
    return sides_fault(line, name, source_line(book, rows, left), source_line(book, rows, right))


def is_source(book, at, source):
    """Whether the source is a wish of the book, or a row in front of the row with the number `at`."""
    word, number = source
    if word == "wish":
        return 0 <= number < len(book.wishes)
    return word == "line" and 0 <= number < at


def source_line(book, rows, source):
    """The line of a source."""
    return book.wishes[source[1]] if source[0] == "wish" else rows[source[1]][0]


def ends_within(book, rows, end):
    """Whether the last line, or without rows some wish, has no words but those of the end."""
    if rows:
        return has_words(rows[-1][0], end)
    return any([has_words(wish, end) for wish in book.wishes])


def check_lines(book, rows, end):
    """Raises BadPaper with the fault of rows of lines."""
    fault = lines_fault(book, rows, end)
    if fault is not None:
        raise BadPaper(fault[0], fault[1])


def lines_width(rows):
    """The most words that a line of the rows has, 0 without rows."""
    return max([len(row[0]) for row in rows], default=0)
