"""Webs of places and ties, and the books of webs."""

from papersorliars.books import Book
from papersorliars.errors import BadOrder, BadWeb
from papersorliars.graded import is_product_of
from papersorliars.stands import check_stand, denied


class Web:
    """Places, ties between them, and a charge for each place."""

    MOST_PLACES = 7
    MOST_TIES = 8

    def __init__(self, places, ties, charges):
        if places < 1 or places > Web.MOST_PLACES:
            raise BadWeb("places")
        if len(ties) > Web.MOST_TIES or not all([is_tie(places, tie) for tie in ties]):
            raise BadWeb("ties")
        if len(charges) != places or not all([charge in (0, 1) for charge in charges]):
            raise BadWeb("charges")
        self.places = places
        self.ties = tuple([(min(tie[0], tie[1]), max(tie[0], tie[1])) for tie in ties])
        self.charges = tuple(charges)
        if len(self.parts(())) > 1:
            raise BadWeb("joined")

    @property
    def odd(self):
        """Whether the charges add up to an odd number."""
        return sum(self.charges) % 2 == 1

    def rim(self, places):
        """The row of the ties with exactly one end among the places."""
        check_row(self.places, places)
        found = []
        for name, (first, second) in enumerate(self.ties, start=1):
            if (first in places) != (second in places):
                found.append(name)
        return tuple(found)

    def parts(self, held):
        """The row of the parts under the held ties."""
        check_row(len(self.ties), held)
        labels = list(range(1, self.places + 1))
        for name, (first, second) in enumerate(self.ties, start=1):
            if name not in held:
                labels = merged(labels, labels[first - 1], labels[second - 1])
        found = []
        for label in sorted(set(labels)):
            found.append(tuple([place for place, other in enumerate(labels, start=1) if other == label]))
        return tuple(found)

    def moved(self, ties):
        """The web with the charges of both ends exchanged for each of the ties."""
        check_row(len(self.ties), ties)
        charges = list(self.charges)
        for name in ties:
            for place in self.ties[name - 1]:
                charges[place - 1] = 1 - charges[place - 1]
        return Web(self.places, self.ties, charges)

    def odd_parts(self, stand):
        """The row of the odd parts under the stand."""
        check_stand(len(self.ties), stand)
        answers = dict(stand)
        found = []
        for part in self.parts(tuple(answers)):
            charge = sum([self.charges[place - 1] for place in part])
            if (charge + sum([answers[name] for name in self.rim(part)])) % 2 == 1:
                found.append(part)
        return tuple(found)

    def __iter__(self):
        return iter(self.ties)

    def __eq__(self, other):
        return (
            isinstance(other, Web) and self.places == other.places
            and self.ties == other.ties and self.charges == other.charges
        )


def is_tie(places, tie):
    """Whether the pair joins two different places of so many."""
    return all([1 <= place <= places for place in tie]) and tie[0] != tie[1]


def check_row(most, row):
    """Raises BadOrder if the row is not an ascending row of numbers from 1 to `most`."""
    if not is_product_of(most, row):
        raise BadOrder(row)


def merged(labels, first, second):
    """The labels with the lesser of two in the place of both."""
    return [min(first, second) if label in (first, second) else label for label in labels]


def web_book(web):
    """The book of the web."""
    wishes = []
    for place in range(1, web.places + 1):
        wishes.extend([denied(row) for row in wrong_rows(web, place)])
    return Book(len(web.ties), wishes)


def wrong_rows(web, place):
    """The rows of answers to all ties of the place whose sum has another parity than its charge."""
    rows = [()]
    for name in web.rim((place,)):
        rows = [row + ((name, answer),) for row in rows for answer in (0, 1)]
    charge = web.charges[place - 1]
    return [row for row in rows if (sum([answer for _, answer in row]) + charge) % 2 == 1]
