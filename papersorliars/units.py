"""Units: wishes that leave only one answer to one name."""

from papersorliars.changes import narrowed_wish


def units(book):
    """The pair (answers, index): the answers that units say, and the least broken wish or None."""
    answers = {}
    while True:
        rests = [narrowed_wish(wish, answers) for wish in book.wishes]
        if () in rests:
            return (tuple(answers.items()), rests.index(()))
        word = first_unit(rests)
        if word is None:
            return (tuple(answers.items()), None)
        answers[word[0]] = word[1]


def first_unit(rests):
    """The one word that is left of the first unit, or None if no wish is a unit."""
    for rest in rests:
        if rest is not None and len(rest) == 1:
            return rest[0]
    return None
