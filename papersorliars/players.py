"""The liar from which the liars of the manners are derived."""

from papersorliars.errors import BadName
from papersorliars.masks import broken_indexes
from papersorliars.stands import with_answer


class Liar:
    """An object that answers questions one by one and holds its answers."""

    def __init__(self, book):
        self.book = book
        self.stand = ()
        self.asked = 0

    def check_free(self, name):
        """Raises BadName if the name is not a name of the book, or not free at the stand."""
        if name < 1 or name > self.book.names or name in dict(self.stand):
            raise BadName(name)

    def hold(self, name, answer):
        """Adds the answer to the stand and returns it."""
        self.check_free(name)
        self.stand = with_answer(self.stand, name, answer)
        self.asked = self.asked + 1
        return answer

    @property
    def broken(self):
        """The row of the indexes of the wishes that the stand breaks, ascending."""
        return broken_indexes(self.book.wishes, self.stand)
