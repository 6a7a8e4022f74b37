"""Readings of line trees: the check, the room, and one with the least room."""

from papersorliars.errors import BadPaper
from papersorliars.linetrees import nodes_upwards
from papersorliars.points import joined_points


def reading_fault(paper, order):
    """The first fault of the row of nodes as a reading of the line tree, or None."""
    leaves = leaves_by_place(paper)
    read = {}
    for at, place in enumerate(order):
        kind = step_fault(leaves, read, place)
        if kind is not None:
            return (at, kind)
        read[place] = True
    if len(read) < len(leaves):
        return (len(order), "missing")
    return None


def leaves_by_place(paper):
    """For each node of the line tree whether it is a leaf."""
    return {place: node[0] == "wish" for place, node in nodes_upwards(paper)}


def step_fault(leaves, read, place):
    """The kind of the fault of the node that is read after those in `read`, or None."""
    if place not in leaves:
        return "node"
    if place in read:
        return "again"
    if not leaves[place] and (place + (0,) not in read or place + (1,) not in read):
        return "early"
    return None


def reading_room(paper, order):
    """The greatest number of lines that are held at a time."""
    fault = reading_fault(paper, order)
    if fault is not None:
        raise BadPaper(fault[0], fault[1])
    leaves = leaves_by_place(paper)
    held = 0
    room = 0
    for place in order:
        held = held + 1 if leaves[place] else held - 1
        room = max(room, held)
    return room


def best_reading(paper):
    """A reading with the least room."""
    numbers = branching_by_place(paper)
    found = []
    nodes = [()]
    while nodes:
        place = nodes.pop()
        found.append(place)
        sides = [place + (0,), place + (1,)]
        if sides[0] in numbers:
            # The row is turned round at the end, so the side that is pushed first is read first.
            first = 0 if numbers[sides[0]] >= numbers[sides[1]] else 1
            nodes.append(sides[first])
            nodes.append(sides[1 - first])
    return tuple(found[::-1])


def branching_by_place(paper):
    """For each node of the line tree its branching number."""
    numbers = {}
    for place, node in nodes_upwards(paper):
        if node[0] == "wish":
            numbers[place] = 0
        else:
            numbers[place] = joined_points(numbers[place + (0,)], numbers[place + (1,)])
    return numbers
