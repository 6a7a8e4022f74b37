"""What the checks of rows of stands have in common."""

from papersorliars.masks import is_broken, pair_mask, row_mask, wish_masks
from papersorliars.stands import free_names, is_right_row


def each_stand_fault(book, most, stands):
    """The first fault of a stand by itself or by the one before it, or None."""
    masks = wish_masks(book.wishes)
    before = None
    for stand in stands:
        if not is_right_row(book.names, stand):
            return (stand, "stand")
        if before is not None and stand <= before:
            return (stand, "order")
        if len(stand) > most:
            return (stand, "long")
        if is_broken(masks, row_mask(stand)):
            return (stand, "broken")
        before = stand
    return None


def stands_by_mask(stands):
    """The masks of the stands, as the keys of a dict."""
    return {row_mask(stand): True for stand in stands}


def is_stuck(names, present, stand):
    """Whether for some free name the stands with neither answer are among those present."""
    held = row_mask(stand)
    for name in free_names(names, stand):
        first = held | pair_mask(name, 0)
        second = held | pair_mask(name, 1)
        if first not in present and second not in present:
            return True
    return False


def joined_stands(stands, moved, most):
    """The stands of at most `most` answers with the answers of a stand of each row, ascending."""
    joined = []
    for stand in stands:
        for second in moved:
            if len(stand) + len(second) <= most:
                joined.append(stand + second)
    return tuple(sorted(joined))
