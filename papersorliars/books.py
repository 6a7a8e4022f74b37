"""The book of wishes, its text and how it is read."""

from papersorliars.errors import BadNames, BadText, BadWish, TooMany
from papersorliars.masks import broken_indexes
from papersorliars.stands import check_stand, is_right_row, moved_row

DIGITS = "0123456789"


class Book:
    """A number of names, and wishes over these names in ascending order."""

    MOST_NAMES = 40
    MOST_WISHES = 128

    def __init__(self, names, wishes):
        if names < 0 or names > Book.MOST_NAMES:
            raise BadNames(names)
        different = different_wishes(names, wishes)
        if len(different) > Book.MOST_WISHES:
            raise TooMany(len(different))
        self.names = names
        self.wishes = tuple(different)

    @classmethod
    def read(cls, text):
        """The book that the text writes."""
        lines = text.split("\n")
        names = names_of_line(lines[0], Book.MOST_NAMES)
        if names is None:
            raise BadText(1)
        return cls(names, wishes_of_lines(names, lines[1:]))

    def text(self):
        """The text of the book."""
        lines = [f"names {self.names}"]
        for wish in self.wishes:
            lines.append(" ".join(["wish", *[word_text(name, value) for name, value in wish]]))
        return "\n".join(lines)

    def breaks(self, stand):
        """The row of the indexes of the wishes that the stand breaks, ascending."""
        check_stand(self.names, stand)
        return broken_indexes(self.wishes, stand)

    @property
    def widest(self):
        """The most words of a wish, 0 without wishes."""
        return max([len(wish) for wish in self.wishes], default=0)

    def __iter__(self):
        return iter(self.wishes)

    def __contains__(self, wish):
        return sorted_row(wish) in self.wishes

    def __eq__(self, other):
        return isinstance(other, Book) and self.names == other.names and self.wishes == other.wishes

    def __or__(self, other):
        if self.names != other.names:
            raise BadNames(other.names)
        return Book(self.names, self.wishes + other.wishes)

    def __add__(self, other):
        moved = [moved_row(wish, self.names) for wish in other.wishes]
        return Book(self.names + other.names, list(self.wishes) + moved)

    def __mul__(self, other):
        moved = [moved_row(wish, self.names) for wish in other.wishes]
        crossed = [wish + second for wish in self.wishes for second in moved]
        return Book(self.names + other.names, crossed)


def sorted_row(row):
    """The pairs of the row in ascending order; what stands twice stays twice."""
    return tuple(sorted([(name, value) for name, value in row]))


def different_wishes(names, rows):
    """The wishes among the rows, each once, ascending. Raises BadWish for a row that is none."""
    wishes = []
    for index, row in enumerate(rows):
        wish = sorted_row(row)
        if not is_right_row(names, wish):
            raise BadWish(index)
        wishes.append(wish)
    return sorted(set(wishes))


def word_text(name, value):
    """The text of one word of a wish."""
    return f"{name}+" if value == 1 else f"{name}-"


def number_of(text, most):
    """The number that the text writes, or None if it writes none from 0 to `most`."""
    if text == "" or len(text) > len(str(most)):
        return None
    if not all([letter in DIGITS for letter in text]) or (text[0] == "0" and text != "0"):
        return None
    number = int(text)
    return number if number <= most else None


def names_of_line(line, most):
    """The number of names that the first line states, or None if it is bad."""
    if not line.startswith("names "):
        return None
    return number_of(line[6:], most)


def wishes_of_lines(names, lines):
    """The wishes that the lines behind the first one write. Raises BadText for the first bad line."""
    wishes = []
    for at, line in enumerate(lines, start=2):
        wish = wish_of_line(names, line)
        if wish is None:
            raise BadText(at)
        wishes.append(wish)
    return wishes


def wish_of_line(names, line):
    """The wish that the line writes, or None if the line is bad."""
    pieces = line.split(" ")
    if pieces[0] != "wish":
        return None
    words = [word_of(names, piece) for piece in pieces[1:]]
    if None in words:
        return None
    wish = tuple(sorted(words))
    return wish if is_right_row(names, wish) else None


def word_of(names, piece):
    """The word that the piece writes, or None; a name that the book does not have may be None, too."""
    name = number_of(piece[:-1], names)
    if name is None or piece[-1] not in ("+", "-"):
        return None
    return (name, 1 if piece[-1] == "+" else 0)
