"""The table of the books of a desk and their measures."""

from papersorliars.limits import MOST_CHANCED
from papersorliars.seven import MANNERS, measures


def report(desk):
    """The table: a line of headings, and one line for each book."""
    lines = [table_line("book", "names", "wishes", MANNERS)]
    for name in desk:
        book = desk[name]
        lines.append(table_line(name, str(book.names), str(len(book.wishes)), measure_texts(book, desk.over)))
    return "\n".join(lines)


def table_line(name, names, wishes, texts):
    """One line of the table."""
    return name.ljust(20) + names.rjust(6) + wishes.rjust(7) + "".join([text.rjust(8) for text in texts])


def measure_texts(book, field):
    """The texts in the columns of the manners."""
    if book.names > MOST_CHANCED:
        return ["." for _ in MANNERS]
    return ["-" if measure is None else str(measure) for measure in measures(book, field=field)]
