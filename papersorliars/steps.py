"""The manner of steps: the check, the polynomials of steps, and the steps within a bound."""

from papersorliars.errors import BadPaper
from papersorliars.fields import check_size_and_field, in_field
from papersorliars.graded import united
from papersorliars.polys import Poly, wish_poly
from papersorliars.stepsearch import StepSearch, step_sources
from papersorliars.tellers import tellers


def step_polys(book, field, steps):
    """The row of the polynomials of the steps."""
    check_size_and_field(book.names, field)
    polys = []
    for at, step in enumerate(steps):
        kind = step_fault(book, field, at, step)
        if kind is not None:
            raise BadPaper(at, kind)
        polys.append(step_poly(book, field, polys, step))
    return tuple(polys)


def steps_fault(book, field, steps, *, most=None):
    """The first fault of steps, or None."""
    check_size_and_field(book.names, field)
    polys = []
    for at, step in enumerate(steps):
        kind = step_fault(book, field, at, step)
        if kind is None and most is not None and is_too_high(book, polys, step, most):
            kind = "degree"
        if kind is not None:
            return (at, kind)
        polys.append(step_poly(book, field, polys, step))
    if not polys or [product for product, _ in polys[-1]] != [()]:
        return (len(steps), "end")
    return None


def step_fault(book, field, at, step):
    """The kind of the fault of the step with the number `at`, or None; its degree is not looked at."""
    if step[0] == "wish":
        return None if 0 <= step[1] < len(book.wishes) else "wish"
    if any([source < 0 or source >= at for source in step_sources(step)]):
        return "source"
    if step[0] == "times":
        return None if 1 <= step[2] <= book.names else "name"
    return "number" if any([in_field(field, number) == 0 for number, _ in step[1]]) else None


def is_too_high(book, polys, step, most):
    """Whether the step uses a wish of more than `most` words, or multiplies a polynomial of this degree or more."""
    if step[0] == "wish":
        return len(book.wishes[step[1]]) > most
    return step[0] == "times" and polys[step[1]].degree >= most


def step_poly(book, field, polys, step):
    """The polynomial of a step, by those of the earlier steps."""
    if step[0] == "wish":
        return wish_poly(field, book.wishes[step[1]])
    if step[0] == "times":
        return Poly(field, [(united(product, (step[2],)), number) for product, number in polys[step[1]]])
    times = {}
    for number, source in step[1]:
        times[source] = times.get(source, 0) + number
    terms = []
    for source, number in times.items():
        terms.extend([(product, number * factor) for product, factor in polys[source]])
    return Poly(field, terms)


def step_paper(book, field, bound):
    """Steps of at most this degree, or None."""
    check_size_and_field(book.names, field)
    search = StepSearch(book, field, bound)
    return search.paper() if search.found() else None


def least_steps(book, field):
    """The least degree of steps, or None if the book is kept."""
    check_size_and_field(book.names, field)
    for bound in range(book.names + 1):
        if StepSearch(book, field, bound).found():
            return bound
    return None


def steps_either(book, field, bound):
    """("paper", steps) with steps of at most this degree, or ("liar", tellers)."""
    paper = step_paper(book, field, bound)
    return ("liar", tellers(book, field, bound)) if paper is None else ("paper", paper)
