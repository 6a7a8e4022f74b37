"""The liar in the manner of kept answers."""

from papersorliars.errors import BadName, NoLiar
from papersorliars.kept import keep_liar
from papersorliars.players import Liar
from papersorliars.stands import with_answer


class KeepLiar(Liar):
    """A liar that answers by the greatest object for its bound, and can be made to forget."""

    def __init__(self, book, bound):
        super().__init__(book)
        stands = keep_liar(book, bound)
        if stands is None:
            raise NoLiar(bound)
        self.bound = bound
        self.safe = {stand: True for stand in stands}

    def __call__(self, name):
        self.check_free(name)
        if len(self.stand) > self.bound:
            raise NoLiar(self.bound)
        answer = 0 if with_answer(self.stand, name, 0) in self.safe else 1
        return self.hold(name, answer)

    def forget(self, *names):
        """Takes the answers to the names out of the stand, or none if one of them has no answer left."""
        answers = dict(self.stand)
        for name in names:
            if name not in answers:
                raise BadName(name)
            del answers[name]
        self.stand = tuple(answers.items())
