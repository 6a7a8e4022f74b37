"""Weights made of papers of other manners, objects made of chances, and chances made of chances and fillings."""

from papersorliars.chances import check_chances
from papersorliars.chancesearch import due_stands
from papersorliars.errors import BadName, BadStand, NoLiar
from papersorliars.graded import products_of
from papersorliars.limits import check_chanced
from papersorliars.lines import check_lines, lines_width, source_line
from papersorliars.masks import is_broken, row_mask, wish_masks
from papersorliars.stands import denied, is_right_row, moved_row, with_answer
from papersorliars.sums import check_sum, sum_degree
from papersorliars.sumsearch import row_stand
from papersorliars.trees import check_tree, tree_depth, ways
from papersorliars.weights import spread


def tree_weights(book, tree):
    """Weights from a right tree, of its depth as the bound."""
    check_chanced(book.names)
    check_tree(book, tree)
    return spread_weights(book.names, tree_depth(tree), [(way, -1) for way, _ in list(ways(tree))])


def sum_weights(book, paper):
    """Weights from a sum over the field 0, of its degree as the bound."""
    check_chanced(book.names)
    check_sum(book, 0, paper)
    total, rows = paper
    sign = -1 if total > 0 else 1
    collected = [(row_stand(book.wishes[index], product), sign * number) for number, product, index in rows]
    return spread_weights(book.names, sum_degree(book, paper), collected)


def line_weights(book, rows):
    """Weights from rows of lines, of their width and one more as the bound."""
    check_chanced(book.names)
    check_lines(book, rows, ())
    if not rows:
        return spread_weights(book.names, 0, [((), -1)])
    uses = row_uses(rows)
    collected = []
    for at, (line, name, left, right) in enumerate(rows):
        for answer, source in ((0, left), (1, right)):
            told = with_answer(denied(line), name, answer)
            held = denied(source_line(book, rows, source))
            collected.extend([(stand, uses[at]) for stand in aside_stands(told, held)])
            if source[0] == "wish":
                collected.append((held, -uses[at]))
    return spread_weights(book.names, lines_width(rows) + 1, collected)


def row_uses(rows):
    """For each of the rows how often the last one uses it."""
    uses = [0] * len(rows)
    uses[-1] = 1
    for at in reversed(range(len(rows))):
        for word, number in rows[at][2:]:
            if word == "line":
                uses[number] = uses[number] + uses[at]
    return uses


def aside_stands(told, held):
    """The stands that leave `told` at one of the answers that are not held, one for each of these answers."""
    found = []
    for at, (name, value) in enumerate(told):
        if (name, value) not in held:
            found.append(tuple(sorted(set(held + told[:at] + ((name, 1 - value),)))))
    return found


def spread_weights(names, bound, collected):
    """The weights that the collected pairs of a stand and a number give."""
    sums = {}
    for stand, number in collected:
        for wide in spread(names, stand, bound):
            sums[wide] = sums.get(wide, 0) + number
    return tuple([(stand, sums[stand]) for stand in sorted(sums) if sums[stand] != 0])


def chances_keep(book, bound, rows):
    """The stands whose number is above 0, ascending."""
    check_chances(book, bound, rows)
    return tuple([stand for stand, number in rows if number > 0])


def chances_design(book, bound, rows):
    """The design over the field 0 of the degree of the bound."""
    check_chances(book, bound, rows)
    numbers = dict(rows)
    found = []
    for product in products_of(book.names, bound):
        found.append((product, numbers[tuple([(name, 1) for name in product])]))
    return tuple(found)


def cut(book, bound, rows, lesser):
    """The pairs of the chances whose stands have at most `lesser` answers."""
    check_chances(book, bound, rows)
    return tuple([pair for pair in rows if len(pair[0]) <= lesser])


def added_chances(book, bound, *objects):
    """The chances in which the number of each stand is the sum of its numbers in all objects."""
    check_chanced(book.names)
    for rows in objects:
        check_chances(book, bound, rows)
    if not objects:
        raise NoLiar(bound)
    sums = {}
    for rows in objects:
        for stand, number in rows:
            sums[stand] = sums.get(stand, 0) + number
    return tuple([(stand, sums[stand]) for stand in due_stands(book.names, bound)])


def chances_after(book, bound, rows, name, answer):
    """The chances that are left after the answer, for the narrowed book and the bound less one."""
    check_chanced(book.names)
    if name < 1 or name > book.names:
        raise BadName(name)
    check_chances(book, bound, rows)
    numbers = dict(rows)
    if bound == 0 or numbers[((name, answer),)] == 0:
        raise NoLiar(bound)
    found = []
    for stand in due_stands(book.names, bound - 1):
        held = dict(stand)
        if name not in held:
            found.append((stand, numbers[with_answer(stand, name, answer)]))
        else:
            found.append((stand, numbers[stand] if held[name] == answer else 0))
    return tuple(found)


def filling_chances(book, bound, fillings):
    """The chances in which the number of a stand is the number of fillings that contain it."""
    check_chanced(book.names)
    masks = wish_masks(book.wishes)
    for filling in fillings:
        if not is_keeping(book.names, masks, filling):
            raise BadStand(filling)
    if not fillings:
        raise NoLiar(bound)
    held = [row_mask(filling) for filling in fillings]
    found = []
    for stand in due_stands(book.names, bound):
        mask = row_mask(stand)
        found.append((stand, len([other for other in held if (other & mask) == mask])))
    return tuple(found)


def is_keeping(names, masks, stand):
    """Whether the row is a filling over the names that breaks none of the wishes with these masks."""
    return is_right_row(names, stand) and len(stand) == names and not is_broken(masks, row_mask(stand))


def joined_chances(book, other, bound, rows, others):
    """The chances for the two books side by side."""
    names = book.names + other.names
    check_chanced(names)
    check_chances(book, bound, rows)
    check_chances(other, bound, others)
    firsts = dict(rows)
    seconds = {moved_row(stand, book.names): number for stand, number in others}
    found = []
    for stand in due_stands(names, bound):
        at = len([name for name, _ in stand if name <= book.names])
        found.append((stand, firsts[stand[:at]] * seconds[stand[at:]]))
    return tuple(found)
