"""Rows of pairs, and the stands among them."""

from papersorliars.errors import BadStand


def is_right_row(names, row):
    """Whether the row of pairs is a stand, a wish or a line over the names 1 to `names`."""
    last = 0
    for name, value in row:
        if name <= last or name > names or value not in (0, 1):
            return False
        last = name
    return True


def check_stand(names, stand):
    """Raises BadStand if the row of pairs is not a stand over the names 1 to `names`."""
    if not is_right_row(names, stand):
        raise BadStand(stand)


def denied(row):
    """The row of pairs with the other value in each pair."""
    return tuple([(name, 1 - value) for name, value in row])


def moved_row(row, by):
    """The row of pairs with each name greater by `by`."""
    return tuple([(name + by, value) for name, value in row])


def with_answer(stand, name, answer):
    """The stand s + (name, answer), for a name that is free at s."""
    return tuple(sorted(stand + ((name, answer),)))


def free_names(names, stand):
    """The names from 1 to `names` that are free at the stand, ascending."""
    held = dict(stand)
    return [name for name in range(1, names + 1) if name not in held]


def stands_of(names, most):
    """Yields all stands over the names 1 to `names` with at most `most` answers, ascending."""
    stand = ()
    while stand is not None:
        yield stand
        stand = stand_after(names, most, stand)


def stand_after(names, most, stand):
    """The next stand in ascending order with at most `most` answers, or None after the last."""
    last = stand[-1][0] if stand else 0
    if len(stand) < most and last < names:
        return stand + ((last + 1, 0),)
    while stand:
        name, value = stand[-1]
        stand = stand[:-1]
        if value == 0:
            return stand + ((name, 1),)
        if name < names:
            return stand + ((name + 1, 0),)
    return None
