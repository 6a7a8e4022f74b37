"""Points 13 and 14: the written form of a value, and reading it back."""

import itertools
import random
import re
import unittest

from papersorliars.texts import read_value, value_text
from tests.helpers import plain, raised, told

ATOM = re.compile(r"(0|-?[1-9][0-9]{0,199}|[a-z]{1,20})\Z")
PAIR = re.compile(r"\(([^()]*)\)")


def is_form(text):
    """Whether the text is the written form of some value, by writing a word for each inner tuple."""
    if "A" in text:
        return False
    for _ in range(100):
        found = PAIR.search(text)
        if not found:
            break
        for inner in set(PAIR.findall(text)):
            if inner and not all(item == "A" or ATOM.match(item) for item in inner.split(" ")):
                return False
        text = PAIR.sub("A", text)
    return text == "A" or bool(ATOM.match(text))


def is_beginning(text):
    """Whether the written form of some value begins so."""
    deep = text.count("(") - text.count(")")
    if deep < 0:
        return False
    return any(is_form(text + end + ")" * deep) for end in ("", "0", "1", "a"))


def place(text):
    """The length of the longest beginning with which some written form begins, too."""
    return max(at for at in range(len(text) + 1) if is_beginning(text[:at]))


def random_value(source, deep):
    kind = source.randint(0, 3 if deep else 1)
    if kind == 0:
        return source.choice((0, -1, 1, 9, 10, -10, 10 ** 199, 1 - 10 ** 200, source.randint(-10 ** 9, 10 ** 9)))
    if kind == 1:
        return "".join(source.choice("abcxyz") for _ in range(source.choice((1, 2, 20))))
    return tuple(random_value(source, deep - 1) for _ in range(source.randint(0, 4)))


def nested(deep, inner=()):
    """The value that has `inner` in so many tuples."""
    for _ in range(deep):
        inner = (inner,)
    return inner


class Written(unittest.TestCase):

    def test_the_kinds_of_values(self):
        for value, text in [(0, "0"), (7, "7"), (-12, "-12"), ("leaf", "leaf"), ((), "()"), ((1,), "(1)"),
                            ((1, 0), "(1 0)"), (("wish", 3), "(wish 3)"), (((), ()), "(() ())"), (((),), "(())"),
                            (((1, 0), (2, 1)), "((1 0) (2 1))"), (("a", (-5, ("b",)), 0), "(a (-5 (b)) 0)")]:
            self.assertEqual(value_text(value), text)
            self.assertEqual(read_value(text), value)

    def test_the_examples_of_the_document(self):
        value = ("ask", 1, ("leaf", 0), ("leaf", 1))
        self.assertEqual(read_value("(ask 1 (leaf 0) (leaf 1))"), value)
        self.assertEqual(value_text(value), "(ask 1 (leaf 0) (leaf 1))")
        for text, at in (("(1 )", 3), ("01", 1), ("-0", 1), ("()(", 2), ("", 0), ("(1", 2)):
            self.assertEqual(told(read_value, text), raised("BadText", at), text)

    def test_the_greatest_sizes(self):
        values = [10 ** 200 - 1, 1 - 10 ** 200, 10 ** 199, -10 ** 199, "z" * 20, "abcdefghijklmnopqrst", nested(99),
                  nested(98, ((), 1, "a")), nested(100, 5), nested(100, "word"), (nested(98), nested(98, "a"), 0)]
        for value in values:
            text = value_text(value)
            self.assertEqual(read_value(text), value)
        self.assertEqual(value_text(10 ** 200 - 1), "9" * 200)
        self.assertEqual(value_text(1 - 10 ** 200), "-" + "9" * 200)
        self.assertEqual(value_text(nested(99)), "(" * 100 + ")" * 100)
        self.assertEqual(value_text(nested(100, 5)), "(" * 100 + "5" + ")" * 100)

    def test_values_by_chance(self):
        source = random.Random(11)
        for _ in range(300):
            value = random_value(source, 6)
            again = read_value(value_text(value))
            self.assertEqual(again, value)
            self.assertTrue(plain(again))

    def test_a_wide_value(self):
        value = tuple(("leaf", k) for k in range(4000))
        self.assertEqual(read_value(value_text(value)), value)

    def test_a_tree_of_four_thousand_leaves(self):
        trees = [("leaf", k) for k in range(4000)]
        while len(trees) > 1:
            pairs = [("ask", 7, *trees[k:k + 2]) for k in range(0, len(trees) - 1, 2)]
            trees = pairs + trees[2 * len(pairs):]
        self.assertEqual(read_value(value_text(trees[0])), trees[0])


class Bad(unittest.TestCase):

    def bad(self, text, at):
        self.assertEqual(told(read_value, text), raised("BadText", at), text)

    def test_numbers_and_words_that_are_too_long(self):
        for more in ("", "0", "a", " ", ")", "(", "-"):
            self.bad("1" * 201 + more, 200)
            self.bad("-" + "9" * 201 + more, 201)
            self.bad("a" * 21 + more, 20)
            self.bad("(" + "a" * 21 + more, 21)
            self.bad("(x " + "1" * 201 + more, 203)
            self.bad("(x -" + "1" * 201 + more, 204)
        self.bad("9" * 400, 200)
        self.bad("(" + "z" * 60, 21)

    def test_numbers(self):
        for text, at in (("01", 1), ("00", 1), ("-0", 1), ("-01", 1), ("-", 1), ("--1", 1), ("-a", 1), ("-(", 1),
                         ("- 1", 1), ("+1", 0), ("1-", 1), ("1+", 1), ("1.0", 1), ("1_0", 1), ("12a", 2), ("0x1", 1),
                         ("0-", 1), ("10-1", 2), ("1e5", 1), ("(-)", 2), ("(01)", 2), ("(0 -0)", 4), ("(1-1)", 2)):
            self.bad(text, at)

    def test_words(self):
        for text, at in (("A", 0), ("aB", 1), ("a1", 1), ("a-", 1), ("a_b", 1), ("'a'", 0), ("(aB)", 2), ("(a1)", 2),
                         ("a b", 1), ("word ", 4), (" word", 0), ("(word", 5), ("a(", 1), ("a)", 1)):
            self.bad(text, at)

    def test_tuples(self):
        for text, at in ((")", 0), ("())", 2), ("()(", 2), ("() ", 2), (" ()", 0), ("( )", 1), ("(1  2)", 3),
                         ("(1 )", 3), ("( 1)", 1), ("(1,2)", 2), ("(1)2", 3), ("(()())", 3), ("(()1)", 3), ("(1())", 2),
                         ("(a())", 2), ("((1) )", 5), ("(() 1", 5), ("(((", 3), ("(1 2", 4), ("(1 ", 3),
                         ("(", 1), ("(()", 3), ("[1]", 0), ("(1]", 2), ("(1\n2)", 2), ("\n", 0), ("1\n", 1),
                         ("()\n", 2), ("(1 a 2 B)", 7)):
            self.bad(text, at)

    def test_texts_that_end_too_early(self):
        text = "(ask 1 (leaf 0) (ask -12 (leaf 1) ()))"
        self.assertEqual(value_text(read_value(text)), text)
        for at in range(len(text)):
            self.bad(text[:at], at)
        for more in ("", ")", " ", "1", "(", "a"):
            if more:
                self.bad(text + more, len(text))

    def test_tuples_that_are_nested_too_deep(self):
        self.bad("(" * 101, 100)
        self.bad("(" * 101 + ")" * 101, 100)
        self.bad("(" * 150, 100)
        self.bad("(" * 100, 100)
        self.bad("(" * 100 + "1 (", 102)
        self.bad("(" * 100 + ") (", 103)
        self.bad("(" * 100 + ") ((" + ")" * 101, 103)
        self.bad("(1 " * 100 + "(", 300)
        text = "(" * 100 + ")" * 50 + " " + "(" * 50
        self.bad(text, 201)
        self.bad(text + "(", 201)
        self.assertEqual(value_text(read_value(text + ")" * 100)), text + ")" * 100)

    def test_all_short_texts(self):
        for many in range(5):
            for letters in itertools.product("() 01-a", repeat=many):
                text = "".join(letters)
                if is_form(text):
                    self.assertEqual(value_text(read_value(text)), text)
                else:
                    self.bad(text, place(text))

    def test_longer_texts_by_chance(self):
        source = random.Random(12)
        for _ in range(2000):
            text = list(value_text(random_value(source, 3))[:30])
            for _ in range(source.randint(1, 3)):
                at = source.randint(0, len(text))
                text[at:at + source.randint(0, 2)] = source.choice("() 01-ab9Z+")
            text = "".join(text)
            if is_form(text):
                self.assertEqual(value_text(read_value(text)), text)
            else:
                self.bad(text, place(text))

    def test_every_other_sign_is_bad(self):
        for code in range(32, 127):
            sign = chr(code)
            if sign not in "0123456789abcdefghijklmnopqrstuvwxyz-(":
                self.bad(sign, 0)
            if sign not in "0123456789abcdefghijklmnopqrstuvwxyz-()":
                self.bad("(" + sign, 1)
            if sign not in "0123456789":
                self.bad("7" + sign, 1)


if __name__ == "__main__":
    unittest.main()
