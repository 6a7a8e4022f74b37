"""The search for steps of a book over a field.

It is the search for the closed room, but it knows how each polynomial was reached. Each vector has two
halves: in the second one stand the numbers of a polynomial, in the first one the numbers of the steps whose
polynomials, multiplied by them and added, give it. Whatever is done to one half is done to the other one.
"""

from papersorliars.fields import in_field
from papersorliars.graded import products_of
from papersorliars.polys import stand_terms
from papersorliars.spaces import Space, leading_place
from papersorliars.stands import denied
from papersorliars.sumsearch import multiple_of, product_places, vector_of


class StepSearch:
    """The search for one book, one field and one bound."""

    def __init__(self, book, field, bound):
        self.bound = bound
        self.products = products_of(book.names, bound)
        self.places = product_places(self.products)
        self.size = len(self.products)
        self.space = Space(field)
        self.steps = []
        # The numbers of the steps that the first half of a vector stands for.
        self.sources = []
        # The number of each step that is still to be multiplied, and the vector of its polynomial.
        self.queue = []
        self.read_wishes(book)
        self.read_multiples(book.names)

    def read_wishes(self, book):
        """Reads the wishes of at most as many words as the bound."""
        for index, wish in enumerate(book.wishes):
            if len(wish) <= self.bound:
                self.take_step(("wish", index), vector_of(self.places, stand_terms(denied(wish))))

    def read_multiples(self, names):
        """Reads the names times the polynomials in the queue."""
        at = 0
        while at < len(self.queue) and not self.found():
            number, vector = self.queue[at]
            at = at + 1
            for name in range(1, names + 1):
                self.take_step(("times", number, name), multiple_of(self.products, self.places, vector, name))

    def take_step(self, step, numbers):
        """Keeps the step whose polynomial has these numbers, unless the steps so far give it or give a constant."""
        if self.found():
            return
        vector = [in_field(self.space.field, number) for number in numbers]
        told = [0] * self.size
        told[len(self.sources)] = 1
        rest = self.space.rest(told + vector)
        if leading_place(rest) >= self.size:
            row = self.space.take(rest)
            self.sources.append(len(self.steps))
            self.steps.append(step)
            self.read_rest(vector, row)

    def read_rest(self, vector, row):
        """Keeps what is left of a new polynomial, if it tells more than the polynomial itself."""
        left = row[self.size:]
        is_last = self.found() and not self.is_constant(vector)
        if is_last or self.degree_of(left) < self.bound <= self.degree_of(vector):
            pairs = list(zip(row[:self.size], self.sources))
            self.steps.append(("sum", tuple([pair for pair in pairs if pair[0] != 0])))
            self.queue.append((len(self.steps) - 1, left))
        elif self.degree_of(vector) < self.bound:
            # The polynomial itself does as well as what is left of it, and its numbers are smaller.
            self.queue.append((len(self.steps) - 1, vector))

    def degree_of(self, vector):
        """The degree of a vector with terms."""
        return len(self.products[leading_place(vector)])

    def is_constant(self, vector):
        """Whether a vector with terms is a constant."""
        return leading_place(vector) == 0

    def found(self):
        """Whether the steps give a constant; then the last one is such a constant."""
        return self.size in self.space.rows

    def paper(self):
        """The steps that the last one needs, numbered from 0."""
        wanted = {len(self.steps) - 1: True}
        for number in reversed(range(len(self.steps))):
            if number in wanted:
                wanted.update({source: True for source in step_sources(self.steps[number])})
        places = {number: place for place, number in enumerate(sorted(wanted))}
        return tuple([renumbered_step(self.steps[number], places) for number in sorted(wanted)])


def step_sources(step):
    """The numbers of the steps of which a step is made."""
    if step[0] == "times":
        return [step[1]]
    return [source for _, source in step[1]] if step[0] == "sum" else []


def renumbered_step(step, places):
    """The step with the new numbers of the steps of which it is made."""
    if step[0] == "times":
        return ("times", places[step[1]], step[2])
    if step[0] == "sum":
        return ("sum", tuple([(number, places[source]) for number, source in step[1]]))
    return step
