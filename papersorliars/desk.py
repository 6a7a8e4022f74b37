"""A desk with books under names, its journal, and what it made of questions."""

from papersorliars.books import Book, sorted_row
from papersorliars.changes import narrowed
from papersorliars.errors import BadEntry, BookError, NoBook
from papersorliars.fields import check_field
from papersorliars.seven import check_manner, either

MOST_LETTERS = 20
LETTERS = "abcdefghijklmnopqrstuvwxyz"
# How many items an entry of the journal has, by its first word.
ENTRY_ITEMS = {"put": 4, "drop": 2, "add": 3, "take": 3, "narrow": 3}


class Desk:
    """Books under names. Each deed that changes them is written into a journal and can be taken back."""

    def __init__(self):
        self.books = {}
        # A row of its own, so that an iteration goes on over the names that there were when it began.
        self.names = ()
        self.journal = ()
        # For each entry of the journal its name, and the book that had this name before, or None.
        self.former = []
        self.field = 0
        self.made = 0
        self.answers = {}

    @property
    def over(self):
        """The field for sums and steps."""
        return self.field

    @over.setter
    def over(self, value):
        self.choose(value)

    def choose(self, field):
        """Takes the field for sums and steps."""
        check_field(field)
        self.field = field

    def __iter__(self):
        return iter(self.names)

    def __contains__(self, name):
        return name in self.books

    def __getitem__(self, name):
        if name not in self.books:
            raise NoBook(name)
        return self.books[name]

    def __setitem__(self, name, book):
        if not is_name(name):
            raise NoBook(name)
        self.write(("put", name, book.names, book.wishes), book)

    def drop(self, name):
        """Takes the book away and returns it."""
        book = self[name]
        self.write(("drop", name), None)
        return book

    def add_wish(self, name, wish):
        """Puts the book with one more wish in its place; returns whether it did not have the wish."""
        book = self[name]
        if wish in book:
            return False
        more = Book(book.names, [wish] + list(book.wishes))
        self.write(("add", name, sorted_row(wish)), more)
        return True

    def take_wish(self, name, wish):
        """Puts the book without the wish in its place; returns whether it had the wish."""
        book = self[name]
        if wish not in book:
            return False
        row = sorted_row(wish)
        self.write(("take", name, row), Book(book.names, [other for other in book.wishes if other != row]))
        return True

    def narrow(self, name, stand):
        """Puts the narrowed book in its place."""
        less = narrowed(self[name], stand)
        self.write(("narrow", name, sorted_row(stand)), less)

    def write(self, entry, book):
        """Does a deed: writes its entry, and puts the book under its name, or no book."""
        name = entry[1]
        self.journal = self.journal + (entry,)
        self.former.append((name, self.books.get(name)))
        self.lay(name, book)

    def lay(self, name, book):
        """Puts the book under the name; None takes the book of this name away."""
        if book is None:
            del self.books[name]
        else:
            self.books[name] = book
        self.names = tuple(sorted(self.books))

    def undo(self):
        """Takes back the last deed of the journal and returns its entry, or None if there is none."""
        if not self.journal:
            return None
        entry = self.journal[-1]
        self.journal = self.journal[:-1]
        name, book = self.former.pop()
        self.lay(name, book)
        return entry

    def picture(self):
        """The row of the names with their books."""
        return tuple([(name, self.books[name].names, self.books[name].wishes) for name in self.names])

    @classmethod
    def replay(cls, entries):
        """A new desk on which the deeds of the entries were done."""
        desk = cls()
        desk.repeat(entries)
        return desk

    def attempt(self, entries, *, keep=False):
        """The picture after the deeds of the entries, which are then taken back unless they are to be kept."""
        many = len(self.journal)
        try:
            self.repeat(entries)
        except BadEntry:
            self.go_back(many)
            raise
        found = self.picture()
        if not keep:
            self.go_back(many)
        return found

    def go_back(self, many):
        """Takes back the deeds until the journal has only so many entries."""
        while len(self.journal) > many:
            self.undo()

    def repeat(self, entries):
        """Does the deeds of the entries. Raises BadEntry at the first one that cannot be done."""
        for index, entry in enumerate(entries):
            if not self.can_repeat(entry):
                raise BadEntry(index)

    def can_repeat(self, entry):
        """Does the deed of the entry; returns whether it could be done."""
        word = entry[0] if entry else ""
        if word not in ENTRY_ITEMS or len(entry) != ENTRY_ITEMS[word]:
            return False
        try:
            return self.repeat_deed(word, entry)
        except BookError:
            return False

    def repeat_deed(self, word, entry):
        """Does the deed of an entry of the right length; returns whether something happened."""
        name = entry[1]
        if word == "add":
            return self.add_wish(name, entry[2])
        if word == "take":
            return self.take_wish(name, entry[2])
        if word == "put":
            self[name] = Book(entry[2], entry[3])
        elif word == "drop":
            self.drop(name)
        else:
            self.narrow(name, entry[2])
        return True

    def ask(self, name, manner, bound):
        """What the manner gives for the book and the bound; what was made before is not made again."""
        check_manner(manner)
        book = self[name]
        key = (book.names, book.wishes, manner, bound, self.field)
        if key not in self.answers:
            self.answers[key] = either(book, manner, bound, field=self.field)
            self.made = self.made + 1
        return self.answers[key]


def is_name(text):
    """Whether the text is a word of small letters that is not too long."""
    return 1 <= len(text) <= MOST_LETTERS and all([letter in LETTERS for letter in text])
