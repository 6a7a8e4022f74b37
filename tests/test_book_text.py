"""Points 9 and 10: the text of a book, and how it is read."""

import random
import unittest

from papersorliars.books import Book
from tests.helpers import all_fillings, raised, random_book, sample_books, told


class Text(unittest.TestCase):

    def test_the_examples_of_the_document(self):
        self.assertEqual(Book(2, [[(2, 1), (1, 0)], []]).text(), "names 2\nwish\nwish 1- 2+")
        self.assertEqual(Book(2, [(), ((1, 0), (2, 1))]).text(), "names 2\nwish\nwish 1- 2+")

    def test_short_books(self):
        self.assertEqual(Book(0, []).text(), "names 0")
        self.assertEqual(Book(40, []).text(), "names 40")
        self.assertEqual(Book(0, [()]).text(), "names 0\nwish")
        self.assertEqual(Book(12, [((10, 1), (9, 0)), ((2, 1),)]).text(), "names 12\nwish 2+\nwish 9- 10+")

    def test_each_book_is_read_from_its_text(self):
        source = random.Random(3)
        books = sample_books(2, 20) + [random_book(source, 40, 128, 0, 5), Book(8, all_fillings(8)[:128])]
        for book in books:
            again = Book.read(book.text())
            self.assertEqual(again, book)
            self.assertEqual((again.names, again.wishes), (book.names, book.wishes))
            self.assertEqual(type(again), Book)


class Read(unittest.TestCase):

    def bad(self, text, line):
        self.assertEqual(told(Book.read, text), raised("BadText", line), text)

    def test_lines_and_words_in_another_order(self):
        text = "names 3\nwish 3+ 1-\nwish 2-\nwish\nwish 1- 3+\nwish 2-"
        self.assertEqual(Book.read(text), Book(3, [(), ((1, 0), (3, 1)), ((2, 0),)]))

    def test_a_wish_several_times(self):
        self.assertEqual(Book.read("names 1\nwish\nwish\nwish").wishes, ((),))
        self.assertEqual(Book.read("names 2\nwish 1+ 2-\nwish 2- 1+").wishes, (((1, 1), (2, 0)),))
        text = "\n".join(["names 2"] + ["wish 1+"] * 300)
        self.assertEqual(Book.read(text), Book(2, [((1, 1),)]))

    def test_bad_first_lines(self):
        for line in ("", "names", "names ", "names 41", "names 100", "names -1", "names +1", "names 01", "names 00",
                     " names 2", "names 2 ", "names  2", "name 2", "Names 2", "names 2.", "names two", "names2",
                     "wish", "wish 1+", "names 1+", "names 2 3", "names 1 ", "names 0x1", "names 1_0"):
            self.bad(line, 1)
            self.bad(line + "\nwish", 1)
            self.bad(line + "\nwish 9+\n", 1)
        self.bad("\nnames 2", 1)
        self.bad("names " + "9" * 300, 1)

    def test_bad_lines_behind_it(self):
        for line in ("", " ", "wish ", " wish", "wish  1+", "wish 1+ ", "wish 1+  2+", "wish1+", "wish 1", "wish +1",
                     "wish 1 +", "wish +", "wish -", "wish 01+", "wish 0+", "wish 00-", "wish 4+", "wish 10-",
                     "wish 1+ 1+", "wish 1+ 1-", "wish 2- 1+ 2-", "wish 1+2-", "wish 1+,2-", "wish 1*", "wish 1+-",
                     "wishes", "Wish", "wish 1++", "wish --1", "wish -1+", "wish 1.0+", "names 3",
                     "wish 1+ x", "wish x+", "wish 1+ 41-", "1+", "wish 3", "wish 1_+", "wish  "):
            self.bad("names 3\n" + line, 2)
            self.bad("names 3\nwish 1+\nwish\n" + line + "\nwish 2-", 4)
        self.bad("names 3\nwish " + "1" * 300 + "+", 2)

    def test_an_empty_last_line(self):
        self.bad("names 2\n", 2)
        self.bad("names 2\nwish 1+\n", 3)
        self.bad("names 2\nwish 1+\n\n", 3)
        self.bad("names 2\n\nwish 1+", 2)

    def test_the_empty_text(self):
        self.bad("", 1)

    def test_names_that_the_book_does_not_have(self):
        self.bad("names 0\nwish 1+", 2)
        self.bad("names 40\nwish 41+", 2)
        self.bad("names 9\nwish 9+\nwish 10+", 3)
        self.assertEqual(Book.read("names 40\nwish 40+ 9-").wishes, (((9, 0), (40, 1)),))

    def test_the_first_of_several_bad_lines(self):
        self.bad("names 2\nwish 1+\nwish 3+\nwish 1", 3)
        self.bad("names 2\nwish 1\nwish 3+", 2)
        self.bad("names 41\nwish 3", 1)
        self.bad("names 2\nwish 1+ 1-\nwish 7+\n", 2)

    def test_too_many_only_if_no_line_is_bad(self):
        lines = ["names 40"] + [f"wish {x}{sign} {x + 1}-" for x in range(1, 40) for sign in "+-"]
        lines += [f"wish {x}{sign} {x + 2}-" for x in range(1, 39) for sign in "+-"]
        self.assertEqual(len(lines), 155)
        self.assertEqual(len(Book.read("\n".join(lines[:129])).wishes), 128)
        self.assertEqual(told(Book.read, "\n".join(lines[:130])), raised("TooMany", 129))
        self.assertEqual(told(Book.read, "\n".join(lines)), raised("TooMany", 154))
        self.bad("\n".join(lines + ["wish 1"]), 156)
        self.bad("\n".join(lines + [""]), 156)
        self.bad("\n".join(["names 40", "wish 41+"] + lines[1:]), 2)


if __name__ == "__main__":
    unittest.main()
