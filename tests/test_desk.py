"""Points 133 to 138 and the interface of desk."""

import random
import unittest

from papersorliars.books import Book
from papersorliars.changes import narrowed
from papersorliars.desk import Desk
from papersorliars.families import chain, full
from papersorliars.seven import MANNERS, either
from tests.algebra import FIELDS, GREAT, NO_FIELDS
from tests.helpers import all_stands, plain, raised, random_book, random_wish, told

BOOK = Book(2, [((1, 0), (2, 1)), ((1, 1),), ((2, 0),)])
NO_NAMES = ("", "A", "a b", "a1", "a" * 21, "x" * 40, "-", "_", "a\n", "Z" * 20, "a.b")
NO_WISHES = (((0, 0),), ((3, 1),), ((1, 2),), ((1, 0), (1, 0)), ((1, 0), (1, 1)), ((1, 0), (2, 1), (1, 1)), ((-1, 1),))
WIDE = Book(7, [stand for stand in all_stands(7) if len(stand) == 7])


def put(desk, name, book):
    desk[name] = book


def desk_of(**books):
    desk = Desk()
    for name, book in books.items():
        desk[name] = book
    return desk


def entry_of(name, book):
    return ("put", name, book.names, book.wishes)


def state(desk):
    """What is on the desk, and what it tells of itself."""
    return (desk.picture(), desk.journal, list(desk), desk.over, desk.made)


class Model:
    """A desk by the words of the document: a list of pictures, one after each deed."""

    def __init__(self):
        self.books = [{}]
        self.entries = []

    def do(self, entry, books):
        self.entries.append(entry)
        self.books.append(books)

    def undo(self):
        if not self.entries:
            return None
        self.books.pop()
        return self.entries.pop()

    def picture(self):
        return tuple((name, book.names, book.wishes) for name, book in sorted(self.books[-1].items()))


class Books(unittest.TestCase):

    def test_a_new_desk(self):
        desk = Desk()
        self.assertEqual((desk.journal, desk.made, desk.over, desk.picture(), list(desk)), ((), 0, 0, (), []))
        self.assertIsNone(desk.undo())

    def test_setting_and_getting(self):
        desk = Desk()
        desk["b"] = BOOK
        self.assertIs(desk["b"], BOOK)
        self.assertIn("b", desk)
        self.assertNotIn("a", desk)
        desk["b"] = chain(3)
        self.assertEqual(desk["b"], chain(3))
        self.assertEqual(desk.journal, (entry_of("b", BOOK), entry_of("b", chain(3))))

    def test_names(self):
        desk = Desk()
        for name in NO_NAMES:
            self.assertEqual(told(put, desk, name, BOOK), raised("NoBook", name))
            self.assertNotIn(name, desk)
        self.assertEqual(state(desk), state(Desk()))
        for name in ("a", "z", "abcdefghijklmnopqrst", "uvwxyz" * 3, "a" * 20):
            desk[name] = BOOK
            self.assertIn(name, desk)
        self.assertEqual(len(desk.journal), 5)

    def test_names_that_the_desk_does_not_have(self):
        desk = desk_of(a=BOOK)
        before = state(desk)
        for name in ("b", "aa", *NO_NAMES):
            for call in (lambda: desk[name], lambda: desk.drop(name), lambda: desk.add_wish(name, ()),
                         lambda: desk.add_wish(name, ((9, 9),)), lambda: desk.take_wish(name, ((9, 9),)),
                         lambda: desk.take_wish(name, ()), lambda: desk.narrow(name, ()),
                         lambda: desk.narrow(name, ((9, 9),)), lambda: desk.ask(name, "depth", 0)):
                self.assertEqual(told(call), raised("NoBook", name))
            self.assertNotIn(name, desk)
        self.assertEqual(state(desk), before)

    def test_iteration(self):
        desk = desk_of(c=BOOK, a=chain(2), b=full(1))
        self.assertEqual(list(desk), ["a", "b", "c"])
        self.assertEqual(sorted(desk), ["a", "b", "c"])
        desk["aa"] = BOOK
        self.assertEqual([name for name in desk], ["a", "aa", "b", "c"])

    def test_iteration_while_the_desk_changes(self):
        desk = desk_of(c=BOOK, a=chain(2), b=full(1))
        found = []
        for name in desk:
            found.append(name)
            desk["x" + name] = desk[name]
            desk.drop(name)
        self.assertEqual(found, ["a", "b", "c"])
        self.assertEqual(list(desk), ["xa", "xb", "xc"])
        names = iter(desk)
        desk.drop("xb")
        desk["d"] = BOOK
        self.assertEqual(list(names), ["xa", "xb", "xc"])


class Deeds(unittest.TestCase):

    def test_drop(self):
        desk = desk_of(a=BOOK, b=chain(3))
        self.assertIs(desk.drop("a"), BOOK)
        self.assertEqual((list(desk), desk.journal[-1]), (["b"], ("drop", "a")))
        self.assertEqual(told(desk.drop, "a"), raised("NoBook", "a"))
        desk["a"] = full(1)
        self.assertEqual(desk.drop("a"), full(1))

    def test_add_a_wish(self):
        desk = desk_of(a=BOOK)
        self.assertIs(desk.add_wish("a", [(2, 1), (1, 1)]), True)
        self.assertEqual(desk["a"], BOOK | Book(2, [((1, 1), (2, 1))]))
        self.assertEqual(desk.journal[1:], (("add", "a", ((1, 1), (2, 1))),))
        self.assertTrue(plain(desk.journal))
        before = state(desk)
        for wish in (((2, 1), (1, 1)), [(1, 1), (2, 1)], ((1, 1),), [[2, 0]]):
            self.assertIs(desk.add_wish("a", wish), False)
        self.assertEqual(state(desk), before)
        self.assertIs(desk.add_wish("a", ()), True)
        self.assertEqual(desk["a"].wishes[0], ())

    def test_wishes_that_are_none(self):
        desk = desk_of(a=BOOK)
        before = state(desk)
        for wish in NO_WISHES:
            self.assertEqual(told(desk.add_wish, "a", wish), raised("BadWish", 0))
            self.assertIs(desk.take_wish("a", wish), False)
        self.assertEqual(state(desk), before)

    def test_books_with_128_wishes(self):
        desk = desk_of(wide=WIDE)
        before = state(desk)
        self.assertEqual(len(WIDE.wishes), 128)
        self.assertIs(desk.add_wish("wide", WIDE.wishes[77][::-1]), False)
        self.assertEqual(told(desk.add_wish, "wide", ((1, 0),)), raised("TooMany", 129))
        self.assertEqual(told(desk.add_wish, "wide", ((1, 0), (1, 0))), raised("BadWish", 0))
        self.assertEqual(state(desk), before)
        self.assertIs(desk.take_wish("wide", WIDE.wishes[77]), True)
        self.assertIs(desk.add_wish("wide", ((1, 0),)), True)
        self.assertEqual(len(desk["wide"].wishes), 128)

    def test_take_a_wish(self):
        desk = desk_of(a=BOOK)
        self.assertIs(desk.take_wish("a", [(2, 1), (1, 0)]), True)
        self.assertEqual(desk["a"], Book(2, [((1, 1),), ((2, 0),)]))
        self.assertEqual(desk.journal[1:], (("take", "a", ((1, 0), (2, 1))),))
        before = state(desk)
        for wish in (((2, 1), (1, 0)), (), ((1, 0),), ((2, 0), (2, 0))):
            self.assertIs(desk.take_wish("a", wish), False)
        self.assertEqual(state(desk), before)

    def test_narrow(self):
        desk = desk_of(a=BOOK)
        self.assertIsNone(desk.narrow("a", ((1, 1),)))
        self.assertEqual(desk["a"], Book(2, [((2, 0),), ((2, 1),)]))
        self.assertEqual(desk.journal[1:], (("narrow", "a", ((1, 1),)),))
        # Also where the book stays equal.
        self.assertIsNone(desk.narrow("a", ()))
        self.assertIsNone(desk.narrow("a", ((1, 0),)))
        self.assertEqual(desk.journal[2:], (("narrow", "a", ()), ("narrow", "a", ((1, 0),))))
        before = state(desk)
        for stand in NO_WISHES + (((2, 0), (1, 0)),):
            self.assertEqual(told(desk.narrow, "a", stand), raised("BadStand", stand))
        self.assertEqual(state(desk), before)

    def test_books_put_again(self):
        desk = desk_of(a=BOOK)
        desk["a"] = Book(2, BOOK.wishes)
        self.assertEqual(desk.journal, (entry_of("a", BOOK),) * 2)

    def test_a_journal_that_was_taken_stays(self):
        desk = desk_of(a=BOOK)
        journal = desk.journal
        desk.drop("a")
        self.assertEqual((journal, len(desk.journal)), ((entry_of("a", BOOK),), 2))

    def test_pictures(self):
        desk = desk_of(b=BOOK, a=full(0), aa=chain(1))
        self.assertEqual(desk.picture(), (("a", 0, ((),)), ("aa", 1, (((1, 0),), ((1, 1),))), ("b", 2, BOOK.wishes)))
        self.assertTrue(plain(desk.picture()))


def random_deed(source, desk, model):
    """Does a deed on the desk and on the model; returns whether it was written into the journal."""
    name = source.choice("abc")
    books = dict(model.books[-1])
    old = books.get(name)
    deed = source.choice(("put", "put", "drop", "add", "add", "take", "take", "narrow"))
    if deed == "put":
        books[name] = random_book(source, source.randint(0, 3), source.randint(0, 5), 0)
        desk[name] = books[name]
        model.do(entry_of(name, books[name]), books)
    elif old is None:
        return False
    elif deed == "drop":
        desk.drop(name)
        del books[name]
        model.do(("drop", name), books)
    elif deed == "narrow":
        stand = source.choice(all_stands(old.names))
        desk.narrow(name, stand)
        books[name] = narrowed(old, stand)
        model.do(("narrow", name, stand), books)
    else:
        wish = random_wish(source, old.names)
        if deed == "take" and old.wishes and source.random() < 0.8:
            wish = source.choice(old.wishes)
        rest = [row for row in old.wishes if row != wish]
        books[name] = Book(old.names, rest + [wish] if deed == "add" else rest)
        if deed == "add":
            happens = desk.add_wish(name, tuple(source.sample(wish, len(wish))))
        else:
            happens = desk.take_wish(name, list(wish))
        if happens != (books[name] != old):
            raise AssertionError(happens)
        if happens:
            model.do((deed, name, wish), books)
        return happens
    return True


class Journal(unittest.TestCase):

    def compare(self, desk, model):
        self.assertEqual(desk.journal, tuple(model.entries))
        self.assertTrue(plain(desk.journal))
        self.assertEqual(desk.picture(), model.picture())
        self.assertEqual(list(desk), sorted(model.books[-1]))

    def test_deeds_and_undoing_by_chance(self):
        source = random.Random(631)
        for _ in range(30):
            desk, model = Desk(), Model()
            for _ in range(40):
                if source.random() < 0.25:
                    self.assertEqual(desk.undo(), model.undo())
                else:
                    random_deed(source, desk, model)
                self.compare(desk, model)
            again = Desk.replay(desk.journal)
            self.assertEqual((again.picture(), again.journal), (desk.picture(), desk.journal))
            self.assertEqual((again.over, again.made), (0, 0))
            while model.entries:
                self.assertEqual(desk.undo(), model.undo())
                self.compare(desk, model)
            self.assertIsNone(desk.undo())
            self.assertEqual(state(desk), state(Desk()))

    def test_undoing_each_deed(self):
        desk = desk_of(a=BOOK)
        desk["a"] = chain(2)
        desk.narrow("a", ())
        desk.add_wish("a", ())
        desk.take_wish("a", ())
        desk.drop("a")
        pictures = []
        for entry in (("drop", "a"), ("take", "a", ()), ("add", "a", ()), ("narrow", "a", ()),
                      entry_of("a", chain(2)), entry_of("a", BOOK)):
            self.assertEqual(desk.undo(), entry)
            pictures.append(desk.picture())
        chained = (("a", 2, chain(2).wishes),)
        with_empty = (("a", 2, ((),) + chain(2).wishes),)
        self.assertEqual(pictures, [chained, with_empty, chained, chained, (("a", 2, BOOK.wishes),), ()])
        self.assertIsNone(desk.undo())
        self.assertEqual(told(lambda: desk["a"]), raised("NoBook", "a"))


BAD_ENTRIES = (
    (), ("puts", "a", 1, ()), ("", "a"), ("undo",), ("make", "a", ()), ("put", "a", 1), ("put", "a", 1, (), ()), ("put",),
    ("drop",), ("drop", "a", 1), ("add", "a"), ("add", "a", (), ()), ("take", "a"), ("take", "a", (), ()),
    ("narrow", "a"), ("narrow", "a", (), ()), ("put", "A", 1, ()), ("put", "a" * 21, 1, ()), ("put", "", 1, ()),
    ("put", "a", 41, ()), ("put", "a", -1, ()), ("put", "a", 1, (((2, 0),),)), ("drop", "b"), ("drop", ""),
    ("add", "b", ()), ("add", "a", ((1, 1),)), ("add", "a", ((3, 1),)), ("add", "a", ((1, 0), (1, 0))), ("take", "b", ()),
    ("take", "a", ()), ("take", "a", ((9, 9),)), ("take", "a", ((2, 1), (2, 1))), ("narrow", "b", ()),
    ("narrow", "a", ((3, 0),)), ("narrow", "a", ((2, 0), (1, 0))),
)
GOOD_ENTRIES = (entry_of("a", BOOK), ("add", "a", ()), ("take", "a", ()), ("narrow", "a", ()), ("narrow", "a", ((2, 0),)),
                entry_of("b", chain(3)), ("drop", "a"), entry_of("a", BOOK))


class Replay(unittest.TestCase):

    def test_good_entries(self):
        desk = Desk.replay(GOOD_ENTRIES)
        self.assertEqual(desk.journal, GOOD_ENTRIES)
        self.assertEqual(desk.picture(), (("a", 2, BOOK.wishes), ("b", 3, chain(3).wishes)))
        self.assertEqual(Desk.replay(list(GOOD_ENTRIES)).journal, GOOD_ENTRIES)
        self.assertEqual(state(Desk.replay(())), state(Desk()))
        self.assertEqual(desk.undo(), GOOD_ENTRIES[-1])
        self.assertEqual(list(desk), ["b"])

    def test_entries_are_written_in_order(self):
        entries = (("put", "a", 2, [[(2, 0)], [(2, 1), (1, 0)], [(1, 1)], [(2, 0)]]), ("add", "a", [(2, 1), (1, 1)]),
                   ("take", "a", ((2, 1), (1, 0))))
        desk = Desk.replay(entries)
        self.assertEqual(desk.journal, (entry_of("a", BOOK), ("add", "a", ((1, 1), (2, 1))),
                                        ("take", "a", ((1, 0), (2, 1)))))
        self.assertTrue(plain(desk.journal))

    def test_bad_entries(self):
        many = tuple(((x, 1),) for x in range(1, 41))
        for bad in BAD_ENTRIES:
            self.assertEqual(told(Desk.replay, (entry_of("a", BOOK), bad)), raised("BadEntry", 1), bad)
            self.assertEqual(told(Desk.replay, (entry_of("a", BOOK), ("narrow", "a", ()), bad, bad, ("drop", "a"))),
                             raised("BadEntry", 2), bad)
        self.assertEqual(told(Desk.replay, (("drop", "a"),)), raised("BadEntry", 0))
        self.assertEqual(told(Desk.replay, (entry_of("w", WIDE), ("add", "w", many[0]))), raised("BadEntry", 1))
        wishes = WIDE.wishes + (((1, 0),),)
        self.assertEqual(told(Desk.replay, (("put", "w", 7, wishes),)), raised("BadEntry", 0))


class Attempts(unittest.TestCase):

    def desk(self):
        desk = desk_of(a=BOOK, c=full(2))
        desk.drop("c")
        desk.choose(3)
        desk.ask("a", "depth", 1)
        return desk

    def test_attempts_that_are_taken_back(self):
        for named in ({}, {"keep": False}):
            desk = self.desk()
            before = state(desk)
            found = desk.attempt(GOOD_ENTRIES, **named)
            self.assertEqual(found, (("a", 2, BOOK.wishes), ("b", 3, chain(3).wishes)))
            self.assertEqual(state(desk), before)
            self.assertIs(desk["a"], BOOK)
            self.assertEqual(desk.undo(), ("drop", "c"))
            self.assertEqual(desk["c"], full(2))
            self.assertEqual(desk.undo(), entry_of("c", full(2)))
            self.assertEqual(desk.undo(), entry_of("a", BOOK))
            self.assertIsNone(desk.undo())

    def test_attempts_that_are_kept(self):
        desk = self.desk()
        before = desk.journal
        entries = GOOD_ENTRIES + (("add", "a", [(2, 1), (1, 1)]),)
        found = desk.attempt(entries, keep=True)
        self.assertEqual(found, desk.picture())
        self.assertEqual(desk.journal, before + GOOD_ENTRIES + (("add", "a", ((1, 1), (2, 1))),))
        self.assertEqual((desk.over, desk.made), (3, 1))
        for entry in reversed(desk.journal):
            self.assertEqual(desk.undo(), entry)
        self.assertEqual(desk.picture(), ())

    def test_no_entries(self):
        for keep in (False, True):
            desk = self.desk()
            before = state(desk)
            self.assertEqual(desk.attempt((), keep=keep), desk.picture())
            self.assertEqual(state(desk), before)

    def test_bad_entries(self):
        for keep in (False, True):
            for bad in BAD_ENTRIES:
                if bad[1:2] == ("b",):
                    continue
                desk = self.desk()
                before = state(desk)
                self.assertEqual(told(desk.attempt, (bad,), keep=keep), raised("BadEntry", 0), bad)
                self.assertEqual(state(desk), before)
                self.assertEqual(told(desk.attempt, GOOD_ENTRIES + (bad,) + GOOD_ENTRIES, keep=keep),
                                 raised("BadEntry", len(GOOD_ENTRIES)), bad)
                self.assertEqual(state(desk), before)
                self.assertEqual(desk.undo(), ("drop", "c"))
                self.assertEqual(list(desk), ["a", "c"])

    def test_the_first_bad_entry_on_this_desk(self):
        # The desk has the book a, so it need not be put.
        desk = self.desk()
        self.assertEqual(desk.attempt((("add", "a", ()), ("drop", "a"))), ())
        self.assertEqual(told(desk.attempt, (("drop", "a"), ("add", "a", ()))), raised("BadEntry", 1))
        self.assertEqual(desk["a"], BOOK)

    def test_attempts_by_chance(self):
        source = random.Random(633)
        for _ in range(40):
            desk, model, other = Desk(), Model(), Model()
            for _ in range(10):
                random_deed(source, desk, model)
            other.books = [dict(model.books[-1])]
            copy = Desk.replay(desk.journal)
            for _ in range(8):
                random_deed(source, copy, other)
            before = state(desk)
            self.assertEqual(desk.attempt(other.entries), other.picture())
            self.assertEqual(state(desk), before)
            bad = tuple(other.entries) + (("drop", "zzz"),)
            self.assertEqual(told(desk.attempt, bad, keep=True), raised("BadEntry", len(other.entries)))
            self.assertEqual(state(desk), before)
            self.assertEqual(desk.attempt(tuple(other.entries), keep=True), other.picture())
            self.assertEqual(desk.journal, tuple(model.entries + other.entries))
            for entry in (model.entries + other.entries)[::-1]:
                self.assertEqual(desk.undo(), entry)

    def test_an_attempt_of_the_journal_itself(self):
        desk = desk_of(a=BOOK)
        self.assertEqual(desk.attempt(desk.journal, keep=True), desk.picture())
        self.assertEqual(desk.journal, (entry_of("a", BOOK),) * 2)


class Fields(unittest.TestCase):

    def test_over_and_choose(self):
        desk = Desk()
        self.assertEqual(desk.over, 0)
        for field in FIELDS:
            desk.over = field
            self.assertEqual(desk.over, field)
            self.assertIsNone(desk.choose(7 - field if field in (0, 2, 5, 7) else 3))
        desk.choose(5)
        for field in NO_FIELDS:
            self.assertEqual(told(desk.choose, field), raised("BadField", field))
            self.assertEqual(told(setattr, desk, "over", field), raised("BadField", field))
            self.assertEqual(desk.over, 5)

    def test_deeds_do_not_change_them(self):
        desk = desk_of(a=BOOK)
        desk.over = 7
        desk.ask("a", "sum", 1)
        desk.add_wish("a", ())
        desk.undo()
        desk.attempt((("drop", "a"),))
        desk.attempt((("drop", "a"),), keep=True)
        told(desk.attempt, (("drop", "a"),))
        desk.undo()
        self.assertEqual((desk.over, desk.made), (7, 1))


class Questions(unittest.TestCase):

    def test_answers(self):
        for field in (0, 2, 5):
            desk = desk_of(a=BOOK, b=chain(3), c=Book(2, []), d=Book(0, [()]))
            desk.over = field
            count = 0
            for name in desk:
                for manner in MANNERS:
                    for bound in (0, 1, 2, GREAT):
                        found = desk.ask(name, manner, bound)
                        self.assertEqual(found, either(desk[name], manner, bound, field=field))
                        count += 1
                        self.assertEqual(desk.made, count)

    def test_the_same_question_again(self):
        desk = desk_of(a=BOOK)
        first = desk.ask("a", "kept", 1)
        self.assertEqual((desk.ask("a", "kept", 1), desk.made), (first, 1))
        # Under another name, with an equal book.
        desk["b"] = Book(2, [[(2, 0)], [(2, 1), (1, 0)], [(1, 1)]])
        self.assertEqual((desk.ask("b", "kept", 1), desk.made), (first, 1))
        # Another bound, another manner, another book, the same wishes over more names.
        desk.ask("a", "kept", 2)
        self.assertEqual(desk.made, 2)
        desk.ask("a", "points", 1)
        self.assertEqual(desk.made, 3)
        desk["b"] = Book(3, BOOK.wishes)
        desk.ask("b", "kept", 1)
        self.assertEqual(desk.made, 4)
        desk.ask("b", "kept", 1)
        desk.ask("a", "kept", 2)
        self.assertEqual(desk.made, 4)

    def test_the_field_counts_in_every_manner(self):
        desk = desk_of(a=BOOK)
        for at, manner in enumerate(MANNERS):
            for field in FIELDS:
                desk.over = field
                desk.ask("a", manner, 1)
                desk.ask("a", manner, 1)
            desk.over = 0
            desk.ask("a", manner, 1)
            self.assertEqual(desk.made, 5 * (at + 1))

    def test_what_was_made_stays(self):
        desk = desk_of(a=BOOK)
        desk.ask("a", "leaves", 2)
        desk.add_wish("a", ())
        desk.ask("a", "leaves", 2)
        self.assertEqual(desk.made, 2)
        desk.undo()
        desk.ask("a", "leaves", 2)
        desk.attempt((("add", "a", ()),), keep=True)
        desk.ask("a", "leaves", 2)
        self.assertEqual(desk.made, 2)
        desk.drop("a")
        desk["x"] = BOOK
        desk.ask("x", "leaves", 2)
        self.assertEqual(desk.made, 2)
        # Another desk makes it anew, also one that is replayed.
        other = Desk.replay(desk.journal)
        other.ask("x", "leaves", 2)
        self.assertEqual((other.made, desk.made), (1, 2))

    def test_errors(self):
        desk = desk_of(a=BOOK, seven=Book(7, []), six=Book(6, []), five=Book(5, []))
        before = state(desk)
        for manner in ("", "deep", "Depth", "tree"):
            for name in ("a", "b", "", "A"):
                self.assertEqual(told(desk.ask, name, manner, 0), raised("BadManner", manner))
        for manner in MANNERS:
            self.assertEqual(told(desk.ask, "b", manner, 0), raised("NoBook", "b"))
        for manner in ("depth", "leaves", "points", "kept"):
            self.assertEqual(told(desk.ask, "seven", manner, 0), raised("TooLarge", 7, 6))
        for manner in ("sum", "steps"):
            self.assertEqual(told(desk.ask, "six", manner, 0), raised("TooLarge", 6, 5))
        self.assertEqual(told(desk.ask, "five", "chance", 0), raised("TooLarge", 5, 4))
        self.assertEqual(told(desk.ask, "five", "chance", 0), raised("TooLarge", 5, 4))
        self.assertEqual(state(desk), before)

    def test_deeds_between_questions_by_chance(self):
        source = random.Random(635)
        desk, model, asked = Desk(), Model(), {}
        for _ in range(300):
            random_deed(source, desk, model)
            if source.random() < 0.3:
                self.assertEqual(desk.undo(), model.undo())
            if source.random() < 0.1:
                desk.over = source.choice(FIELDS)
            for name in desk:
                manner, bound = source.choice(MANNERS), source.randint(0, 2)
                book = desk[name]
                asked[(book.names, book.wishes, manner, bound, desk.over)] = True
                self.assertEqual(desk.ask(name, manner, bound), either(book, manner, bound, field=desk.over))
                self.assertEqual(desk.made, len(asked))


if __name__ == "__main__":
    unittest.main()
