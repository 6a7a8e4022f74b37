"""The asker in the manner of kept answers, and its play against a liar."""

from papersorliars.lines import check_lines, source_line
from papersorliars.masks import broken_indexes
from papersorliars.stands import denied


class LineAsker:
    """An asker that plays by a paper: it asks, hears the answer, and forgets what it does not need."""

    def __init__(self, book, rows):
        check_lines(book, rows, ())
        self.book = book
        self.held = ()
        self.rows = rows
        self.at = len(rows) - 1

    @property
    def question(self):
        """The name of its row, or None if the stand that it holds breaks a wish."""
        if broken_indexes(self.book.wishes, self.held):
            return None
        return self.rows[self.at][1]

    def hear(self, answer):
        """Goes to the source for the answer, unless nothing is asked."""
        if self.question is not None:
            source = self.rows[self.at][2 + answer]
            self.held = denied(source_line(self.book, self.rows, source))
            if source[0] == "line":
                self.at = source[1]


def asking(asker, liar):
    """Yields the pair of each question of the asker and the answer of the liar, after both were told of it."""
    name = asker.question
    while name is not None:
        held = dict(asker.held)
        names = [known for known, _ in liar.stand if known not in held]
        liar.forget(*names)
        answer = liar(name)
        asker.hear(answer)
        yield (name, answer)
        name = asker.question
