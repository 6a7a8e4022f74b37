"""The liar in the manner of points."""

from papersorliars.errors import NoLiar
from papersorliars.players import Liar
from papersorliars.points import point_table
from papersorliars.stands import with_answer


class PointLiar(Liar):
    """A liar that lets the asker choose where both answers would cost a point."""

    def __init__(self, book, bound):
        super().__init__(book)
        rows = point_table(book, bound)
        if rows is None:
            raise NoLiar(bound)
        self.bound = bound
        self.points = 0
        self.numbers = dict(rows)

    def __call__(self, name, choice):
        self.check_free(name)
        now = self.number_at(self.stand)
        for answer in (0, 1):
            if self.number_at(with_answer(self.stand, name, answer)) >= now:
                return self.hold(name, answer)
        self.points = self.points + 1
        return self.hold(name, choice)

    def number_at(self, stand):
        """The number of the stand in the table."""
        return self.numbers.get(stand, 0)
