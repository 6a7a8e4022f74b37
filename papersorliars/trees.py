"""Trees of questions: the check, the measures, and the trees for changed books."""

from papersorliars.changes import check_names, check_order, narrowed, narrowed_wishes
from papersorliars.changes import renamed, renamed_row, turned, turned_row
from papersorliars.errors import BadName, BadPaper
from papersorliars.masks import is_broken, row_mask, wish_masks
from papersorliars.stands import check_stand, moved_row, with_answer


def tree_fault(book, tree):
    """The first fault of the tree, or None."""
    masks = wish_masks(book.wishes)
    nodes = [((), tree)]
    while nodes:
        way, node = nodes.pop()
        kind = node_fault(book, masks, way, node)
        if kind is not None:
            return (way, kind)
        if node[0] == "ask":
            nodes.append((with_answer(way, node[1], 1), node[3]))
            nodes.append((with_answer(way, node[1], 0), node[2]))
    return None


def node_fault(book, masks, way, node):
    """The kind of the fault of one node, or None."""
    number = node[1]
    if node[0] == "ask":
        if number < 1 or number > book.names:
            return "name"
        return "again" if number in dict(way) else None
    if number < 0 or number >= len(masks):
        return "wish"
    return None if is_broken([masks[number]], row_mask(way)) else "unbroken"


def check_tree(book, tree):
    """Raises BadPaper with the fault of the tree."""
    fault = tree_fault(book, tree)
    if fault is not None:
        raise BadPaper(fault[0], fault[1])


def tree_depth(tree):
    """The most questions on the way of a leaf."""
    if tree[0] == "leaf":
        return 0
    return 1 + max(tree_depth(tree[2]), tree_depth(tree[3]))


def tree_leaves(tree):
    """The number of leaves."""
    if tree[0] == "leaf":
        return 1
    return tree_leaves(tree[2]) + tree_leaves(tree[3])


def ways(tree):
    """Yields the pair (way, index) of each leaf, the side 0 of a node before its side 1."""
    nodes = [((), tree)]
    while nodes:
        way, node = nodes.pop()
        if node[0] == "leaf":
            yield (way, node[1])
        else:
            nodes.append((with_answer(way, node[1], 1), node[3]))
            nodes.append((with_answer(way, node[1], 0), node[2]))


def leaf_of(tree, stand):
    """The index of the leaf that is reached if the stand answers the questions."""
    answers = dict(stand)
    while tree[0] == "ask":
        name = tree[1]
        if name not in answers:
            raise BadName(name)
        tree = tree[2 + answers[name]]
    return tree[1]


def narrowed_tree(book, tree, stand):
    """The tree for the narrowed book."""
    check_stand(book.names, stand)
    check_tree(book, tree)
    indexes = new_indexes(narrowed_wishes(book, stand), narrowed(book, stand))
    return answered_tree(tree, dict(stand), indexes)


def renamed_tree(book, tree, order):
    """The tree for the renamed book."""
    check_order(book, order)
    check_tree(book, tree)
    indexes = new_indexes([renamed_row(wish, order) for wish in book.wishes], renamed(book, order))
    return reordered_tree(tree, order, indexes)


def turned_tree(book, tree, names):
    """The tree for the turned book."""
    check_names(book, names)
    check_tree(book, tree)
    indexes = new_indexes([turned_row(wish, names) for wish in book.wishes], turned(book, names))
    return exchanged_tree(tree, names, indexes)


def crossed_tree(book, other, tree, second):
    """The tree for the two books crossed."""
    crossed = book * other
    check_tree(book, tree)
    check_tree(other, second)
    moved = [moved_row(wish, book.names) for wish in other.wishes]
    rows = []
    for wish in book.wishes:
        rows.append(new_indexes([wish + row for row in moved], crossed))
    return grafted_tree(tree, second, book.names, rows)


def new_indexes(wishes, book):
    """For each of the wishes its index in the book, or None if the book does not have it."""
    indexes = {wish: index for index, wish in enumerate(book.wishes)}
    return [indexes.get(wish) for wish in wishes]


def answered_tree(tree, answers, indexes):
    """The tree without the nodes that ask what is answered, with the new indexes at its leaves."""
    while tree[0] == "ask" and tree[1] in answers:
        tree = tree[2 + answers[tree[1]]]
    if tree[0] == "leaf":
        return ("leaf", indexes[tree[1]])
    first = answered_tree(tree[2], answers, indexes)
    return ("ask", tree[1], first, answered_tree(tree[3], answers, indexes))


def reordered_tree(tree, order, indexes):
    """The tree that asks the names of the order, with the new indexes at its leaves."""
    if tree[0] == "leaf":
        return ("leaf", indexes[tree[1]])
    first = reordered_tree(tree[2], order, indexes)
    return ("ask", order[tree[1] - 1], first, reordered_tree(tree[3], order, indexes))


def exchanged_tree(tree, names, indexes):
    """The tree with the sides exchanged where one of the names is asked, and the new indexes."""
    if tree[0] == "leaf":
        return ("leaf", indexes[tree[1]])
    first = exchanged_tree(tree[2], names, indexes)
    second = exchanged_tree(tree[3], names, indexes)
    if tree[1] in names:
        return ("ask", tree[1], second, first)
    return ("ask", tree[1], first, second)


def grafted_tree(tree, second, by, rows):
    """The tree with the moved second tree in place of each leaf; a row of new indexes for each leaf."""
    if tree[0] == "leaf":
        return moved_tree(second, by, rows[tree[1]])
    first = grafted_tree(tree[2], second, by, rows)
    return ("ask", tree[1], first, grafted_tree(tree[3], second, by, rows))


def moved_tree(tree, by, indexes):
    """The tree that asks names greater by `by`, with the new indexes at its leaves."""
    if tree[0] == "leaf":
        return ("leaf", indexes[tree[1]])
    first = moved_tree(tree[2], by, indexes)
    return ("ask", tree[1] + by, first, moved_tree(tree[3], by, indexes))
