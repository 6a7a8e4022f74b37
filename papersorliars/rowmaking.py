"""Making rows of lines from sources, each with the least line that its sources allow."""

from papersorliars.lines import source_line
from papersorliars.linetrees import joined_line


class RowMaker:
    """Rows of lines of a book that are made one by one, no two with the same line."""

    def __init__(self, book):
        self.book = book
        self.rows = []
        self.numbers = {}

    def line(self, source):
        """The line of a source: of a wish, or of a row made before."""
        return source_line(self.book, self.rows, source)

    def joined(self, name, left, right):
        """The source for a row that asks the name and has these sources: one of them, or a row."""
        left_line = self.line(left)
        right_line = self.line(right)
        if (name, 1) not in left_line:
            return left
        if (name, 0) not in right_line:
            return right
        line = joined_line(left_line, right_line, name)
        if line not in self.numbers:
            self.numbers[line] = len(self.rows)
            self.rows.append((line, name, left, right))
        return ("line", self.numbers[line])

    def replayed(self, rows, wishes):
        """The rows made for these rows, with the sources in `wishes` in the place of their wishes."""
        sources = []
        for _, name, left, right in rows:
            sides = [replaced_source(source, sources, wishes) for source in (left, right)]
            sources.append(self.joined(name, sides[0], sides[1]))
        return self.needed(sources[-1]) if sources else ()

    def needed(self, source):
        """The rows that the source needs, its own as the last one, numbered from 0."""
        wanted = {source[1]: True} if source[0] == "line" else {}
        for number in reversed(range(len(self.rows))):
            if number in wanted:
                wanted.update({side[1]: True for side in self.rows[number][2:] if side[0] == "line"})
        return renumbered([self.rows[number] for number in sorted(wanted)], sorted(wanted))


def replaced_source(source, sources, wishes):
    """What stands for a source, by those that stand for the rows and for the wishes."""
    return wishes[source[1]] if source[0] == "wish" else sources[source[1]]


def renumbered(rows, numbers):
    """The rows with these numbers, numbered from 0 in their order."""
    places = {number: place for place, number in enumerate(numbers)}
    found = []
    for line, name, left, right in rows:
        sides = [("line", places[side[1]]) if side[0] == "line" else side for side in (left, right)]
        found.append((line, name, sides[0], sides[1]))
    return tuple(found)
