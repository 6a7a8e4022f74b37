"""Rows of pairs as integers, with one bit for each pair.

A stand breaks a wish if it has all bits of the denied wish; this is much faster than to compare pairs.
Only right rows have masks, since a name below 1 would have no bit.
"""

from papersorliars.stands import denied


def pair_mask(name, value):
    """The mask of one pair."""
    return 1 << (2 * name + value)


def row_mask(row):
    """The mask of a right row."""
    mask = 0
    for name, value in row:
        mask = mask | pair_mask(name, value)
    return mask


def wish_masks(wishes):
    """For each wish the mask of the least stand that breaks it."""
    return [row_mask(denied(wish)) for wish in wishes]


def is_broken(masks, held):
    """Whether the stand with the mask `held` breaks one of the wishes with these masks."""
    for mask in masks:
        if (held & mask) == mask:
            return True
    return False


def first_broken(masks, held):
    """The index of the first of the masks that is broken by the stand with the mask `held`, or None."""
    for index, mask in enumerate(masks):
        if (held & mask) == mask:
            return index
    return None


def broken_indexes(wishes, stand):
    """The row of the indexes of the wishes that the stand breaks, ascending."""
    held = row_mask(stand)
    return tuple([index for index, mask in enumerate(wish_masks(wishes)) if (held & mask) == mask])
