"""The search for the stands that no object of a liar in the manner of kept answers has.

Each stand that is found gets a source whose line it denies. So a paper is there as soon as the stand
without answers is found, and the stands that are never found are the greatest object.
"""

from papersorliars.masks import first_broken, row_mask, wish_masks
from papersorliars.rowmaking import RowMaker
from papersorliars.stands import free_names, stands_of, with_answer


class KeepSearch:
    """The search for one book and one bound."""

    def __init__(self, book, bound):
        # With at least as many answers as names, nothing is forgotten; a greater bound changes nothing.
        self.most = min(bound, book.names) + 1
        self.book = book
        self.maker = RowMaker(book)
        self.sources = {}
        self.queue = []
        self.find_broken()
        self.find_others()

    def find_broken(self):
        """Finds the stands that break a wish."""
        masks = wish_masks(self.book.wishes)
        for stand in list(stands_of(self.book.names, self.most)):
            index = first_broken(masks, row_mask(stand))
            if index is not None:
                self.note(stand, ("wish", index))

    def find_others(self):
        """Finds the other stands, by each stand that was found."""
        at = 0
        while at < len(self.queue):
            stand = self.queue[at]
            at = at + 1
            self.find_greater(stand)
            self.find_stuck(stand)

    def note(self, stand, source):
        """Notes the source of a stand that was not found before."""
        if stand not in self.sources:
            self.sources[stand] = source
            self.queue.append(stand)

    def find_greater(self, stand):
        """Finds the stands with one answer more than a stand that was found."""
        if len(stand) < self.most:
            for name in free_names(self.book.names, stand):
                self.note(with_answer(stand, name, 0), self.sources[stand])
                self.note(with_answer(stand, name, 1), self.sources[stand])

    def find_stuck(self, stand):
        """Finds the stands with one answer less for which the other answer to its name was found, too."""
        for at, (name, value) in enumerate(stand):
            less = stand[:at] + stand[at + 1:]
            turned = stand[:at] + ((name, 1 - value),) + stand[at + 1:]
            if less not in self.sources and turned in self.sources:
                sides = (stand, turned) if value == 0 else (turned, stand)
                left, right = [self.sources[side] for side in sides]
                self.note(less, self.maker.joined(name, left, right))

    def found(self):
        """Whether the stand without answers was found, so that there is a paper."""
        return () in self.sources

    def paper(self):
        """The paper that the search found."""
        return self.maker.needed(self.sources[()])

    def left(self):
        """The stands that were not found, ascending."""
        stands = list(stands_of(self.book.names, self.most))
        return tuple([stand for stand in stands if stand not in self.sources])
