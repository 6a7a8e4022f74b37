"""Turned rows of lines: tidied and widened rows, and the paper of a tree."""

from papersorliars.changes import narrowed, narrowed_wishes
from papersorliars.errors import BadName
from papersorliars.lines import check_lines
from papersorliars.points import branching
from papersorliars.rowmaking import RowMaker
from papersorliars.trees import check_tree, ways


def tidied(book, rows, end=()):
    """The rows made anew, with the least lines that their sources allow, and only those that are needed."""
    check_lines(book, rows, end)
    return RowMaker(book).replayed(rows, wish_sources(book))


def widened(book, name, answer, rows):
    """Rows for the book from a paper for the book narrowed by the answer."""
    if name < 1 or name > book.names:
        raise BadName(name)
    stand = ((name, answer),)
    less = narrowed(book, stand)
    check_lines(less, rows, ())
    # In the narrowed book no wish has the name, so a row that asks it stands for one of its sources here, too.
    return RowMaker(book).replayed(rows, old_sources(less, narrowed_wishes(book, stand)))


def wish_sources(book):
    """The source of each wish of the book."""
    return [("wish", index) for index in range(len(book.wishes))]


def old_sources(less, rests):
    """For each wish of the narrowed book the source of a wish of which it is the rest."""
    found = {}
    for index, rest in enumerate(rests):
        found[rest] = ("wish", index)
    return [found[wish] for wish in less.wishes]


def narrow_lines(book, tree):
    """The paper of a right tree."""
    check_tree(book, tree)
    maker = RowMaker(book)
    return maker.needed(narrow_source(maker, tree, wish_sources(book)))


def narrow_source(maker, node, sources):
    """A source that the way of the node breaks, made of the sources that stand for the wishes by their indexes.

    The side with the lesser branching number comes first, and its answer is kept meanwhile. What it
    gives leaves one answer to the name, so the other side gets wishes without the word of the name
    and keeps nothing more. So there are at most as many kept answers as the branching number falls.
    """
    if node[0] == "leaf":
        return sources[node[1]]
    name = node[1]
    answer = 0 if branching(node[2]) <= branching(node[3]) else 1
    first = narrow_source(maker, node[2 + answer], sources)
    if (name, 1 - answer) not in maker.line(first):
        return first
    others = {}
    for index in leaf_indexes(node[3 - answer]):
        # A source whose line lacks the word (name, answer) stays as it is.
        sides = (first, sources[index]) if answer == 0 else (sources[index], first)
        others[index] = maker.joined(name, sides[0], sides[1])
    return narrow_source(maker, node[3 - answer], others)


def leaf_indexes(tree):
    """The indexes of the leaves of the tree, ascending."""
    return sorted(set([index for _, index in ways(tree)]))
