"""The limit of the functions that search all stands."""

from papersorliars.errors import TooLarge

MOST_SEARCHED = 6


def check_searched(book):
    """Raises TooLarge if the book has too many names for a search of all its stands."""
    if book.names > MOST_SEARCHED:
        raise TooLarge(book.names, MOST_SEARCHED)
