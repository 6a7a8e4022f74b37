"""The written form of a value, and reading it back."""

from papersorliars.errors import BadText

DIGITS = "0123456789"
LETTERS = "abcdefghijklmnopqrstuvwxyz"
MOST_DIGITS = 200
MOST_LETTERS = 20
MOST_DEEP = 100


def value_text(value):
    """The written form of the value."""
    if isinstance(value, str):
        return value
    if isinstance(value, int):
        return str(value)
    texts = []
    for item in value:
        texts.append(value_text(item))
    return "(" + " ".join(texts) + ")"


def read_value(text):
    """The value whose written form is the text. Raises BadText for every other text."""
    # One list for each open tuple; the list in front of them gets the value itself.
    rows = [[]]
    at = value_start(text, 0, rows)
    while len(rows) > 1:
        at = next_part(text, at, rows)
    if at < len(text):
        raise BadText(at)
    return rows[0][0]


def next_part(text, at, rows):
    """Reads on in a tuple, from the place `at`; returns the place behind what was read."""
    sign = text[at:at + 1]
    if sign == ")":
        row = tuple(rows.pop())
        rows[-1].append(row)
        return at + 1
    if not rows[-1]:
        return value_start(text, at, rows)
    if sign == " ":
        return value_start(text, at + 1, rows)
    raise BadText(at)


def value_start(text, at, rows):
    """Reads a word, a number or the bracket that begins a tuple; returns the place behind it."""
    sign = text[at:at + 1]
    if sign == "(" and len(rows) <= MOST_DEEP:
        rows.append([])
        return at + 1
    end = at
    if sign != "" and sign in LETTERS:
        end = end_of(text, at, LETTERS, MOST_LETTERS)
        rows[-1].append(text[at:end])
    elif sign == "-" or (sign != "" and sign in DIGITS):
        end = number_end(text, at)
        rows[-1].append(int(text[at:end]))
    if end == at:
        raise BadText(at)
    return end


def number_end(text, at):
    """The place behind the number that begins at `at`."""
    if text[at] == "0":
        return at + 1
    first = at + 1 if text[at] == "-" else at
    end = end_of(text, first, DIGITS, MOST_DIGITS)
    if end == first or text[first] == "0":
        raise BadText(first)
    return end


def end_of(text, at, letters, most):
    """The place behind the longest run of these letters from `at` on, of at most `most` of them."""
    end = at
    while end < len(text) and end < at + most and text[end] in letters:
        end = end + 1
    return end
