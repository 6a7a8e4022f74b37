"""The liar in the manner of depth, and the play of a tree."""

from papersorliars.depth import depth_liar
from papersorliars.errors import NoLiar
from papersorliars.players import Liar
from papersorliars.stands import with_answer


class DepthLiar(Liar):
    """A liar that answers by the greatest object for its bound."""

    def __init__(self, book, bound):
        super().__init__(book)
        stands = depth_liar(book, bound)
        if stands is None:
            raise NoLiar(bound)
        self.bound = bound
        self.safe = {stand: True for stand in stands}

    def __call__(self, name):
        self.check_free(name)
        if self.asked >= self.bound:
            raise NoLiar(self.bound)
        answer = 0 if with_answer(self.stand, name, 0) in self.safe else 1
        return self.hold(name, answer)


def play(tree, liar):
    """Yields the pair of each question of the tree after the liar has answered it."""
    while tree[0] == "ask":
        name = tree[1]
        answer = liar(name)
        yield (name, answer)
        tree = tree[2 + answer]
