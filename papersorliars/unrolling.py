"""Rows of lines as line trees, and line trees as rows of lines."""

from papersorliars.errors import TooLarge
from papersorliars.lines import check_lines
from papersorliars.linetrees import check_line_tree, nodes_upwards

MOST_LEAVES = 4000


def price(book, rows):
    """The number of leaves of the unrolled form of the paper."""
    check_lines(book, rows, ())
    return leaves_of_rows(rows)


def leaves_of_rows(rows):
    """The number of leaves of the unrolled form of the last row, 1 without rows."""
    leaves = []
    for row in rows:
        counts = [1 if word == "wish" else leaves[number] for word, number in row[2:]]
        leaves.append(counts[0] + counts[1])
    return leaves[-1] if leaves else 1


def unrolled(book, rows):
    """The line tree that is the unrolled form of the paper."""
    check_lines(book, rows, ())
    leaves = leaves_of_rows(rows)
    if leaves > MOST_LEAVES:
        raise TooLarge(leaves, MOST_LEAVES)
    forms = []
    for line, name, left, right in rows:
        sides = [source if source[0] == "wish" else forms[source[1]] for source in (left, right)]
        forms.append(("from", name, line, sides[0], sides[1]))
    return forms[-1] if forms else ("wish", 0)


def flat_lines(book, paper):
    """The paper in the manner of kept answers that the line tree becomes."""
    check_line_tree(book, paper)
    numbers = {}
    sources = []
    for _, node in nodes_upwards(paper):
        if node[0] == "wish":
            sources.append(("wish", node[1]))
        else:
            right = sources.pop()
            left = sources.pop()
            row = (node[2], node[1], left, right)
            numbers.setdefault(row, len(numbers))
            sources.append(("line", numbers[row]))
    return tuple(numbers)
