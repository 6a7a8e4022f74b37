"""Steps for the tests: their polynomials and faults by the words of the document, and spoiled ones."""

from tests import algebra


def polys_of(book, field, steps):
    """The polynomials of steps without a fault but that of the degree or the end, as dicts."""
    found = []
    for step in steps:
        found.append(poly_of(book, field, found, step))
    return found


def poly_of(book, field, found, step):
    """The polynomial of a step, by those of the earlier ones."""
    if step[0] == "wish":
        return algebra.clean(field, algebra.wish_terms(field, book.wishes[step[1]]))
    if step[0] == "times":
        return algebra.multiplied(field, found[step[1]], {(step[2],): 1})
    terms = {}
    for number, source in step[1]:
        terms = algebra.plus(field, terms, found[source], number)
    return terms


def steps_fault(book, field, steps, most=None):
    """The first fault by the words of points 91 and 92."""
    found = []
    for at, step in enumerate(steps):
        kinds = []
        if step[0] == "wish" and step[1] not in range(len(book.wishes)):
            kinds.append("wish")
        sources = [step[1]] if step[0] == "times" else []
        if step[0] == "sum":
            sources = [source for _, source in step[1]]
        if any(source not in range(at) for source in sources):
            kinds.append("source")
        if step[0] == "times" and step[2] not in range(1, book.names + 1):
            kinds.append("name")
        if step[0] == "sum" and any(algebra.written(field, number) == 0 for number, _ in step[1]):
            kinds.append("number")
        if most is not None and not kinds:
            if step[0] == "wish" and len(book.wishes[step[1]]) > most:
                kinds.append("degree")
            if step[0] == "times" and algebra.degree(found[step[1]]) >= most:
                kinds.append("degree")
        if kinds:
            return (at, kinds[0])
        found.append(poly_of(book, field, found, step))
    if not steps or list(found[-1]) != [()]:
        return (len(steps), "end")
    return None


def spoiled_steps(source, book, steps):
    """The steps with one place changed."""
    steps = list(steps)
    at = source.randint(0, max(len(steps) - 1, 0))
    deed = source.randint(0, 7)
    if deed == 0 or not steps:
        steps.insert(at, ("wish", source.randint(-1, len(book.wishes))))
    elif deed == 1:
        steps.pop()
    elif deed == 2:
        steps.append(("times", source.randint(-1, len(steps)), source.randint(0, book.names + 1)))
    elif deed == 3:
        pairs = tuple((source.randint(-3, 7), source.randint(-1, len(steps))) for _ in range(source.randint(0, 3)))
        steps.append(("sum", pairs))
    elif deed == 4:
        steps[at] = ("times", source.randint(-1, at), source.randint(0, book.names + 1))
    elif deed == 5:
        steps[at] = ("sum", tuple((source.choice((0, 1, 1, 2, 3, 5, 7)), source.randint(-1, at)) for _ in range(2)))
    elif deed == 6:
        steps[at] = ("wish", source.randint(0, max(len(book.wishes) - 1, 0)))
    else:
        other = source.randint(0, len(steps) - 1)
        steps[at], steps[other] = steps[other], steps[at]
    return tuple(steps)
