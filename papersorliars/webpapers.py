"""What odd webs give for their books: rows of lines from a plan, the object of a refuge, and the sum of the web."""

from papersorliars.errors import BadLiar, BadWeb
from papersorliars.halvings import check_plan, halving, plan_places
from papersorliars.refuges import refuge, refuge_fault
from papersorliars.rowmaking import RowMaker
from papersorliars.stands import denied, stands_of, with_answer
from papersorliars.webs import web_book


def plan_lines(web, plan):
    """A paper in the manner of kept answers for the book of the web."""
    check_odd(web)
    book = web_book(web)
    check_plan(web, plan)
    rows = PlanRows(web, book)
    last = rows.source(plan, ())
    return rows.maker.needed(last)


def check_odd(web):
    """Raises BadWeb if the web is even."""
    if not web.odd:
        raise BadWeb("even")


def is_odd(web, places, stand):
    """Whether the charges of the places and the answers of the stand add up to an odd number."""
    charge = sum([web.charges[place - 1] for place in places])
    return (charge + sum([answer for _, answer in stand])) % 2 == 1


class PlanRows:
    """Rows of lines that go along a plan: from all places down to the places one by one."""

    def __init__(self, web, book):
        self.web = web
        self.maker = RowMaker(book)
        self.indexes = {wish: index for index, wish in enumerate(book.wishes)}
        self.sources = {}

    def source(self, plan, stand):
        """A source that the stand breaks: it answers the rim of the places of the plan, and these are odd."""
        if plan[0] == "place":
            return ("wish", self.indexes[denied(stand)])
        key = (plan_places(plan), stand)
        if key not in self.sources:
            rims = [self.web.rim(plan_places(half)) for half in plan[1:]]
            shared = [tie for tie in rims[0] if tie in rims[1]]
            self.sources[key] = self.halved(plan, rims, shared, stand)
        return self.sources[key]

    def halved(self, plan, rims, shared, stand):
        """A source that the stand breaks, if of both rims only the shared ties are still to be asked."""
        if shared:
            tie = shared[0]
            left = self.halved(plan, rims, shared[1:], with_answer(stand, tie, 0))
            right = self.halved(plan, rims, shared[1:], with_answer(stand, tie, 1))
            return self.maker.joined(tie, left, right)
        # Together both halves are odd, so just one of them is.
        stands = [tuple([pair for pair in stand if pair[0] in rim]) for rim in rims]
        half = 0 if is_odd(self.web, plan_places(plan[1]), stands[0]) else 1
        return self.source(plan[1 + half], stands[half])


def refuge_liar(web, bound, rows):
    """The object of a liar in the manner of kept answers that the refuge gives."""
    check_odd(web)
    fault = refuge_fault(web, bound, rows)
    if fault is not None:
        raise BadLiar(fault[0], fault[1])
    present = {position: True for position in rows}
    found = []
    for stand in list(stands_of(len(web.ties), bound + 1)):
        odd_ones = web.odd_parts(stand)
        if len(odd_ones) == 1 and (tuple([tie for tie, _ in stand]), odd_ones[0]) in present:
            found.append(stand)
    return tuple(found)


def web_sum(web):
    """The sum of the web over the field 2: all wishes of its book once."""
    check_odd(web)
    return (1, tuple([(1, (), index) for index in range(len(web_book(web).wishes))]))


def web_either(web, bound):
    """("paper", plan) of a measure of at most the bound and one, or ("liar", rows) with the greatest refuge."""
    plan = halving(web, bound + 1)
    return ("liar", refuge(web, bound)) if plan is None else ("paper", plan)
