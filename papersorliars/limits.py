"""The limits of names of the functions that search."""

from papersorliars.errors import TooLarge

MOST_SEARCHED = 6
MOST_SUMMED = 5
MOST_CHANCED = 4


def check_searched(book):
    """Raises TooLarge if the book has too many names for a search of all its stands."""
    if book.names > MOST_SEARCHED:
        raise TooLarge(book.names, MOST_SEARCHED)


def check_summed(names):
    """Raises TooLarge for too many names for sums, designs, rooms, steps and tellers."""
    if names > MOST_SUMMED:
        raise TooLarge(names, MOST_SUMMED)


def check_chanced(names):
    """Raises TooLarge for too many names for chances and weights."""
    if names > MOST_CHANCED:
        raise TooLarge(names, MOST_CHANCED)
