"""Point 139 and the interface of reports."""

import itertools
import unittest

from papersorliars.books import Book
from papersorliars.desk import Desk
from papersorliars.families import chain, full
from papersorliars.reports import report
from papersorliars.seven import MANNERS, measures
from tests.algebra import FIELDS
from tests.helpers import sample_books

HEAD = "book                 names wishes   depth  leaves  points    kept     sum   steps  chance"


def desk_of(**books):
    desk = Desk()
    for name, book in books.items():
        desk[name] = book
    return desk


class Reports(unittest.TestCase):

    def test_a_desk_without_books(self):
        self.assertEqual(report(Desk()), HEAD)
        self.assertEqual(len(HEAD), 20 + 6 + 7 + 7 * 8)

    def test_an_ordinary_desk(self):
        desk = desk_of(two=chain(2), four=full(4), none=Book(0, []), empty=Book(0, [()]), kept=Book(4, [((1, 0),)]))
        self.assertEqual(report(desk), "\n".join([
            HEAD,
            "empty                    0      1       0       1       0       0       0       0       0",
            "four                     4     16       4      16       4       3       4       4       4",
            "kept                     4      1       -       -       -       -       -       -       -",
            "none                     0      0       -       -       -       -       -       -       -",
            "two                      2      3       2       3       1       1       2       2       2",
        ]))

    def test_large_books(self):
        wide = Book(7, [tuple(enumerate(row, 1)) for row in itertools.product((0, 1), repeat=7)])
        desk = desk_of(five=chain(5), forty=Book(40, []), wide=wide)
        dots = 7 * "       ."
        self.assertEqual(report(desk), "\n".join([
            HEAD,
            "five                     5      6" + dots,
            "forty                   40      0" + dots,
            "wide                     7    128" + dots,
        ]))

    def test_long_names(self):
        desk = desk_of(abcdefghijklmnopqrst=chain(1), z=chain(1))
        lines = report(desk).split("\n")
        self.assertEqual(lines[1], "abcdefghijklmnopqrst     1      2       1       2       1       0       1       1       1")
        self.assertEqual(lines[2][:33], "z                        1      2")

    def test_fields(self):
        # Of three answers an odd number of pairs are equal, so over 2 all six wishes add up to 1.
        wishes = [((1, 0), (2, 0)), ((1, 1), (2, 1)), ((2, 0), (3, 0)), ((2, 1), (3, 1)), ((1, 0), (3, 0)),
                  ((1, 1), (3, 1))]
        desk = desk_of(a=Book(3, wishes))
        for field in FIELDS:
            desk.over = field
            line = report(desk).split("\n")[1]
            self.assertEqual(line[65:73], "       2" if field == 2 else "       3")
            self.assertEqual(line[33:], "".join(f"{number:>8}" for number in measures(desk["a"], field=field)))

    def test_many_books(self):
        books = sample_books(641, 26)
        names = [letter + "x" * at for at, letter in enumerate("qwertyuiopasdfghjkl")]
        desk = Desk()
        for name, book in zip(names, books):
            desk[name] = book
        before = (desk.picture(), desk.journal, desk.over, desk.made)
        lines = report(desk).split("\n")
        self.assertEqual(len(lines), 20)
        for name, line in zip(sorted(names), lines[1:]):
            book = desk[name]
            texts = ["-" if number is None else str(number) for number in measures(book)]
            pieces = [line[:20], line[20:26], line[26:33]] + [line[33 + 8 * k:41 + 8 * k] for k in range(7)]
            self.assertEqual(pieces[0], name + " " * (20 - len(name)))
            self.assertEqual([piece.strip() for piece in pieces[1:]], [str(book.names), str(len(book.wishes)), *texts])
            self.assertEqual(len(line), len(HEAD))
            self.assertFalse(line.endswith(" "))
        self.assertEqual((desk.picture(), desk.journal, desk.over, desk.made), before)
        self.assertEqual(HEAD.split(), ["book", "names", "wishes", *MANNERS])
        self.assertFalse(report(desk).endswith("\n"))

    def test_the_report_follows_the_desk(self):
        desk = desk_of(a=chain(2))
        first = report(desk)
        desk.add_wish("a", ())
        self.assertIn("a                        2      4       0       1", report(desk))
        desk.undo()
        self.assertEqual(report(desk), first)


if __name__ == "__main__":
    unittest.main()
