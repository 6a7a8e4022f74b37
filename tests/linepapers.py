"""Line trees for the tests: right ones made by chance, and great ones."""

import random

from tests.helpers import add, kept, sample_books


def line_of(book, node):
    return book.wishes[node[1]] if node[0] == "wish" else node[2]


def random_paper(source, book, words=(), deep=5):
    """A right line tree whose root has no words but these; names may stand again below themselves."""
    fitting = [k for k, wish in enumerate(book.wishes) if set(wish) <= set(words)]
    if fitting and source.random() < 0.7:
        return ("wish", source.choice(fitting))
    line = words
    if deep > 0 and words:
        line = tuple(word for word in words if source.random() < 0.8)
    names = [x for x in range(1, book.names + 1) if x not in [y for y, _ in line]]
    if not names:
        return ("wish", source.choice(fitting)) if fitting else None
    name = source.choice(names)
    left = random_paper(source, book, add(line, name, 1), deep - 1)
    right = random_paper(source, book, add(line, name, 0), deep - 1)
    return None if left is None or right is None else ("from", name, line, left, right)


def papers(seed, many, more=()):
    """Pairs of a book that is not kept and a right line tree of it."""
    source = random.Random(seed)
    for book in [*sample_books(seed, many), *more]:
        if not kept(book):
            for _ in range(6):
                yield book, random_paper(source, book)


def leaves_of(paper):
    return 1 if paper[0] == "wish" else leaves_of(paper[3]) + leaves_of(paper[4])


def grown(leaves, names, line=()):
    """A right line tree with this many leaves of the wish without words; its lines get longer and longer."""
    if leaves == 1:
        return ("wish", 0)
    first = max(leaves // 4, leaves - 2 ** (len(names) - 1), 1)
    name = names[0]
    left = grown(first, names[1:], add(line, name, 1))
    return ("from", name, line, left, grown(leaves - first, names[1:], add(line, name, 0)))


def ladder(names, side):
    """A line tree without words that goes down one side."""
    node = ("wish", 0)
    for name in names:
        node = ("from", name, (), *((node, ("wish", 0)) if side == 0 else (("wish", 0), node)))
    return node
