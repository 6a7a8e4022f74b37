"""Papers and objects turned along a row of kinds."""

from papersorliars.designs import design_liar
from papersorliars.errors import BadArrow
from papersorliars.kept import check_keep_liar
from papersorliars.linetrees import lines_tree, tree_lines
from papersorliars.mixing import chances_design, chances_keep, line_weights, sum_weights, tree_weights
from papersorliars.points import table_stands
from papersorliars.stepping import line_steps, sum_steps
from papersorliars.sums import tree_sum
from papersorliars.tellers import teller_design
from papersorliars.turning import narrow_lines
from papersorliars.unrolling import flat_lines, unrolled

PAPER_ARROWS = (
    ("tree", "linetree"), ("tree", "lines"), ("tree", "sum"), ("tree", "weights"), ("linetree", "tree"),
    ("linetree", "lines"), ("lines", "linetree"), ("lines", "steps"), ("lines", "weights"), ("sum", "steps"),
    ("sum", "weights"),
)
LIAR_ARROWS = (
    ("chances", "keep"), ("chances", "design"), ("tellers", "design"), ("design", "depth"), ("keep", "depth"),
    ("table", "depth"),
)
# These turnings are turnings over the field 0 only.
ZERO_ARROWS = (("sum", "weights"), ("chances", "design"))


def arrows_of(kinds, known, field):
    """The pairs of kinds along the row. Raises BadArrow for the first one that is not a known turning."""
    pairs = list(zip(kinds, kinds[1:]))
    for pair in pairs:
        if pair not in known or (pair in ZERO_ARROWS and field != 0):
            raise BadArrow(pair[0], pair[1])
    return pairs


def carried_paper(book, kinds, paper, *, field=0):
    """The paper turned along the row of kinds."""
    for kind, goal in arrows_of(kinds, PAPER_ARROWS, field):
        paper = turned_paper(book, kind, goal, field, paper)
    return paper


def turned_paper(book, kind, goal, field, paper):
    """The paper of one kind turned into one of another kind."""
    if kind == "tree":
        return turned_tree_paper(book, goal, field, paper)
    if kind == "linetree":
        return lines_tree(book, paper) if goal == "tree" else flat_lines(book, paper)
    if kind == "sum":
        return sum_steps(book, field, paper) if goal == "steps" else sum_weights(book, paper)
    if goal == "linetree":
        return unrolled(book, paper)
    return line_steps(book, field, paper) if goal == "steps" else line_weights(book, paper)


def turned_tree_paper(book, goal, field, tree):
    """The tree turned into a paper of another kind."""
    if goal == "linetree":
        return tree_lines(book, tree)
    if goal == "lines":
        return narrow_lines(book, tree)
    return tree_sum(book, field, tree) if goal == "sum" else tree_weights(book, tree)


def carried_liar(book, kinds, bound, thing, *, field=0):
    """The pair of the bound and the object turned along the row of kinds."""
    for kind, goal in arrows_of(kinds, LIAR_ARROWS, field):
        bound, thing = turned_liar(book, kind, goal, field, bound, thing)
    return (bound, thing)


def turned_liar(book, kind, goal, field, bound, thing):
    """The bound and the object of one kind turned into one of another kind."""
    if kind == "chances":
        if goal == "keep":
            return (bound - 1, chances_keep(book, bound, thing))
        return (bound, chances_design(book, bound, thing))
    if kind == "keep":
        check_keep_liar(book, bound, thing)
        return (bound + 1, thing)
    if kind == "tellers":
        return (bound, teller_design(book, field, bound, thing))
    if kind == "design":
        return (bound, design_liar(book, field, bound, thing))
    return (bound, table_stands(book, bound, thing))
