"""Steps made of papers of other manners: of sums, and of rows of lines."""

from papersorliars.fields import check_size_and_field, in_field
from papersorliars.lines import check_lines, source_line
from papersorliars.sums import check_sum


def sum_steps(book, field, paper):
    """Steps from a sum: each wish times the names of its product, and all rows together."""
    check_sum(book, field, paper)
    steps = []
    pairs = []
    for number, product, index in paper[1]:
        steps.append(("wish", index))
        for name in product:
            steps.append(("times", len(steps) - 1, name))
        pairs.append((in_field(field, number), len(steps) - 1))
    steps.append(("sum", tuple(pairs)))
    return tuple(steps)


def line_steps(book, field, rows):
    """Steps from rows of lines; the polynomial of each line is that of a step."""
    check_size_and_field(book.names, field)
    check_lines(book, rows, ())
    if not rows:
        return (("wish", 0),)
    steps = []
    reached = []
    for line, name, left, right in rows:
        sides = []
        for source, word in ((left, (name, 1)), (right, (name, 0))):
            known = source_line(book, rows, source)
            start = source_step(steps, reached, source)
            words = [other for other in line + (word,) if other not in known]
            sides.append(lengthened_step(field, steps, start, words))
        steps.append(("sum", ((1, sides[0]), (1, sides[1]))))
        reached.append(len(steps) - 1)
    return tuple(steps)


def source_step(steps, reached, source):
    """The number of the step with the polynomial of the line of a source; that of a wish is added."""
    if source[0] == "line":
        return reached[source[1]]
    steps.append(("wish", source[1]))
    return len(steps) - 1


def lengthened_step(field, steps, start, words):
    """The number of the step with the polynomial of the line of the step `start` with these words added."""
    at = start
    for name, value in words:
        steps.append(("times", at, name))
        if value == 1:
            # The word stands for 1 less the name.
            steps.append(("sum", ((1, at), (in_field(field, -1), len(steps) - 1))))
        at = len(steps) - 1
    return at
