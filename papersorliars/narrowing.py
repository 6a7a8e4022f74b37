"""A paper in the manner of kept answers for a narrowed book."""

from papersorliars.changes import narrowed, narrowed_wishes
from papersorliars.lines import check_lines
from papersorliars.rowmaking import RowMaker, replaced_source
from papersorliars.stands import check_stand
from papersorliars.trees import new_indexes


def narrowed_lines(book, rows, stand):
    """The paper for the book narrowed by the stand."""
    check_stand(book.names, stand)
    check_lines(book, rows, ())
    less = narrowed(book, stand)
    wishes = [wish_source(index) for index in new_indexes(narrowed_wishes(book, stand), less)]
    maker = RowMaker(less)
    answers = dict(stand)
    sources = []
    for _, name, left, right in rows:
        sides = [replaced_source(source, sources, wishes) for source in (left, right)]
        sources.append(narrowed_source(maker, answers, name, sides))
    return maker.needed(sources[-1]) if sources else ()


def wish_source(index):
    """The source of the wish with the index, or None for a wish that the narrowed book does not have."""
    return None if index is None else ("wish", index)


def narrowed_source(maker, answers, name, sides):
    """What stands for a row in the narrowed book, or None if the stand meets a word of its line.

    The sides are what stands for its sources. If the name is not answered and the stand meets a word of
    the line of a source, this word is in the line of the row, too.
    """
    if name in answers:
        return sides[answers[name]]
    if None in sides:
        return None
    return maker.joined(name, sides[0], sides[1])
