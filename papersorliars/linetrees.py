"""Line trees: the check, the leaves, and the turnings from and to trees of questions."""

from papersorliars.errors import BadPaper
from papersorliars.stands import is_right_row
from papersorliars.trees import check_tree


def line_tree_fault(book, paper):
    """The first fault of the line tree, or None."""
    for place, node in nodes_upwards(paper):
        kind = line_node_fault(book, node)
        if kind is not None:
            return (place, kind)
    if line_of(book, paper) != ():
        return ((), "end")
    return None


def nodes_upwards(paper):
    """The pairs (place, node) of a line tree: of each node first its left, its right, then itself."""
    found = []
    nodes = [((), paper)]
    while nodes:
        place, node = nodes.pop()
        found.append((place, node))
        if node[0] == "from":
            nodes.append((place + (0,), node[3]))
            nodes.append((place + (1,), node[4]))
    return found[::-1]


def line_node_fault(book, node):
    """The kind of the fault of one node whose sides have no fault, or None."""
    if node[0] == "wish":
        return None if 0 <= node[1] < len(book.wishes) else "wish"
    kind = asked_line_fault(book, node[2], node[1])
    if kind is not None:
        return kind
    return sides_fault(node[2], node[1], line_of(book, node[3]), line_of(book, node[4]))


def asked_line_fault(book, line, name):
    """The kind of the fault of a line at which the name is asked, or None."""
    if not is_right_row(book.names, line):
        return "line"
    if name < 1 or name > book.names:
        return "name"
    return "asked" if (name, 0) in line or (name, 1) in line else None


def sides_fault(line, name, left_line, right_line):
    """The kind of the fault of the lines on both sides of a line at which the name is asked, or None."""
    if not has_words(left_line, line + ((name, 1),)):
        return "left"
    return None if has_words(right_line, line + ((name, 0),)) else "right"


def line_of(book, node):
    """The line of a node of a line tree."""
    return book.wishes[node[1]] if node[0] == "wish" else node[2]


def has_words(line, words):
    """Whether the line has no words but these."""
    allowed = {word: True for word in words}
    return all([word in allowed for word in line])


def check_line_tree(book, paper):
    """Raises BadPaper with the fault of the line tree."""
    fault = line_tree_fault(book, paper)
    if fault is not None:
        raise BadPaper(fault[0], fault[1])


def line_tree_leaves(paper):
    """The number of leaves of the line tree."""
    if paper[0] == "wish":
        return 1
    return line_tree_leaves(paper[3]) + line_tree_leaves(paper[4])


def tree_lines(book, tree):
    """The line tree that a right tree becomes."""
    check_tree(book, tree)
    return lined_node(book, tree)


def lined_node(book, node):
    """What the node of a right tree becomes."""
    if node[0] == "leaf":
        return ("wish", node[1])
    name = node[1]
    left = lined_node(book, node[2])
    right = lined_node(book, node[3])
    left_line = line_of(book, left)
    right_line = line_of(book, right)
    if (name, 1) not in left_line:
        return left
    if (name, 0) not in right_line:
        return right
    return ("from", name, joined_line(left_line, right_line, name), left, right)


def joined_line(left_line, right_line, name):
    """The line with the words of both lines without those of the name."""
    return tuple(sorted(set([word for word in left_line + right_line if word[0] != name])))


def lines_tree(book, paper):
    """The tree that a right line tree becomes."""
    check_line_tree(book, paper)
    return asked_node(paper, {})


def asked_node(node, answers):
    """What the node of a right line tree becomes if the stand has these answers."""
    while node[0] == "from" and node[1] in answers:
        node = node[3 + answers[node[1]]]
    if node[0] == "wish":
        return ("leaf", node[1])
    name = node[1]
    first = asked_node(node[3], {**answers, name: 0})
    return ("ask", name, first, asked_node(node[4], {**answers, name: 1}))
