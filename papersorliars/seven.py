"""The seven manners by their names: measures, accounts, and the faults of papers and objects against a bound."""

from papersorliars.chances import chance_either, chances_fault, least_chance
from papersorliars.depth import depth_either, depth_liar_fault, least_depth
from papersorliars.designs import design_fault
from papersorliars.errors import BadManner
from papersorliars.fields import check_field
from papersorliars.kept import keep_either, keep_liar_fault, least_kept
from papersorliars.leaves import leaf_either, least_leaves
from papersorliars.limits import check_chanced
from papersorliars.lines import lines_fault
from papersorliars.points import branching, least_points, point_either, point_table_fault
from papersorliars.shares import share_fault
from papersorliars.steps import least_steps, steps_either, steps_fault
from papersorliars.sums import least_sum, sum_either, sum_fault
from papersorliars.tellers import tellers_fault
from papersorliars.trees import tree_depth, tree_fault, tree_leaves
from papersorliars.weights import weights_fault

MANNERS = ("depth", "leaves", "points", "kept", "sum", "steps", "chance")


def check_manner(manner):
    """Raises BadManner if the word is not the name of a manner."""
    if manner not in MANNERS:
        raise BadManner(manner)


def least(book, manner, *, field=0):
    """The measure of the book in the manner, or None if it is kept."""
    check_manner(manner)
    if manner == "depth":
        return least_depth(book)
    if manner == "leaves":
        return least_leaves(book)
    if manner == "points":
        return least_points(book)
    if manner == "kept":
        return least_kept(book)
    if manner == "sum":
        return least_sum(book, field)
    if manner == "steps":
        return least_steps(book, field)
    return least_chance(book)


def either(book, manner, bound, *, field=0):
    """("paper", paper) with a paper within the bound, or ("liar", object) with an object against it."""
    check_manner(manner)
    if manner == "depth":
        return depth_either(book, bound)
    if manner == "leaves":
        return leaf_either(book, bound)
    if manner == "points":
        return point_either(book, bound)
    if manner == "kept":
        return keep_either(book, bound)
    if manner == "sum":
        return sum_either(book, field, bound)
    if manner == "steps":
        return steps_either(book, field, bound)
    return chance_either(book, bound)


def measures(book, *, field=0):
    """The row of the seven measures."""
    check_chanced(book.names)
    check_field(field)
    return tuple([least(book, manner, field=field) for manner in MANNERS])


def account(book, *, field=0):
    """For each manner the row of its name, the measure, a paper within it, and an object against the bound below."""
    rows = []
    for manner, measure in zip(MANNERS, measures(book, field=field)):
        paper = None
        thing = None
        if measure is not None:
            paper = either(book, manner, measure, field=field)[1]
        if measure is not None and measure > 0:
            thing = either(book, manner, measure - 1, field=field)[1]
        rows.append((manner, measure, paper, thing))
    return tuple(rows)


def paper_fault(book, manner, bound, paper, *, field=0):
    """The fault of a paper within the bound, or None."""
    check_manner(manner)
    if manner == "kept":
        return lines_fault(book, paper, most=bound)
    if manner == "sum":
        return sum_fault(book, field, paper, most=bound)
    if manner == "steps":
        return steps_fault(book, field, paper, most=bound)
    if manner == "chance":
        return weights_fault(book, bound, paper)
    fault = tree_fault(book, paper)
    if fault is None and tree_number(manner, paper) > bound:
        return ((), "bound")
    return fault


def tree_number(manner, tree):
    """The number of a tree that the manner bounds."""
    if manner == "depth":
        return tree_depth(tree)
    return tree_leaves(tree) if manner == "leaves" else branching(tree)


def liar_fault(book, manner, bound, thing, *, field=0):
    """The fault of an object against the bound, or None."""
    check_manner(manner)
    if manner == "depth":
        return depth_liar_fault(book, bound, thing)
    if manner == "leaves":
        return share_fault(book, thing, bound=bound)
    if manner == "points":
        return point_table_fault(book, bound, thing)
    if manner == "kept":
        return keep_liar_fault(book, bound, thing)
    if manner == "sum":
        return design_fault(book, field, bound, thing)
    if manner == "steps":
        return tellers_fault(book, field, bound, thing)
    return chances_fault(book, bound, thing)
