"""The errors that the program raises.

The messages do not show the numbers of an error: a price may be too long to be written.
"""


class BookError(ValueError):
    """The base class of all errors that the program raises."""


class BadNames(BookError):
    """A number of names that is not allowed."""

    def __init__(self, names):
        super().__init__("this number of names is not allowed")
        self.names = names


class BadWish(BookError):
    """A row that is not a wish, by its index among the rows passed."""

    def __init__(self, index):
        super().__init__("a row is not a wish over the names of the book")
        self.index = index


class TooMany(BookError):
    """More different wishes than a book may have."""

    def __init__(self, many):
        super().__init__("there are too many different wishes")
        self.many = many


class BadStand(BookError):
    """A row that is not a stand of the kind that is asked for."""

    def __init__(self, stand):
        super().__init__("the row is not a stand over the names")
        self.stand = stand


class BadName(BookError):
    """A name that cannot be asked, answered or forgotten."""

    def __init__(self, name):
        super().__init__("this name cannot be used here")
        self.name = name


class BadOrder(BookError):
    """A row that is not an order, or not an ascending row."""

    def __init__(self, order):
        super().__init__("the row is not an order or an ascending row of what it should name")
        self.order = order


class BadText(BookError):
    """A text that writes nothing, with the line or the place where it goes wrong."""

    def __init__(self, at):
        super().__init__("the text is not written in the right form")
        self.at = at


class TooLarge(BookError):
    """A size beyond the limit of a function."""

    def __init__(self, size, limit):
        super().__init__("the size is greater than the limit")
        self.size = size
        self.limit = limit


class NoLiar(BookError):
    """There is no liar, or the liar answers no more questions."""

    def __init__(self, bound):
        super().__init__("there is no liar within this bound")
        self.bound = bound


class BadField(BookError):
    """An integer that is not one of the fields."""

    def __init__(self, field):
        super().__init__("the integer is not one of the fields")
        self.field = field


class BadPaper(BookError):
    """A paper with a fault."""

    def __init__(self, place, kind):
        super().__init__("the paper has a fault")
        self.place = place
        self.kind = kind


class BadLiar(BookError):
    """An object of a liar with a fault."""

    def __init__(self, place, kind):
        super().__init__("the object of a liar has a fault")
        self.place = place
        self.kind = kind


class BadWeb(BookError):
    """Something that is not a web of the kind that is asked for."""

    def __init__(self, kind):
        super().__init__("this is not a web of the right kind")
        self.kind = kind


class BadManner(BookError):
    """A word that is not the name of a manner."""

    def __init__(self, manner):
        super().__init__("the word is not the name of a manner")
        self.manner = manner


class BadArrow(BookError):
    """Two kinds between which there is no turning."""

    def __init__(self, kind, goal):
        super().__init__("there is no turning between these kinds")
        self.kind = kind
        self.goal = goal


class NoBook(BookError):
    """A name under which a desk has no book."""

    def __init__(self, name):
        super().__init__("the desk has no book of this name")
        self.name = name


class BadEntry(BookError):
    """An entry of a journal that cannot be done."""

    def __init__(self, index):
        super().__init__("an entry of the journal cannot be done")
        self.index = index
