"""Plans of webs: the check, the measure, and a plan of the least measure."""

from papersorliars.errors import BadPaper
from papersorliars.plansearch import PlanSearch


def plan_fault(web, plan):
    """The first fault of the plan, or None."""
    seen = {}
    nodes = [((), plan)]
    while nodes:
        way, node = nodes.pop()
        if node[0] == "halves":
            nodes.append((way + (1,), node[2]))
            nodes.append((way + (0,), node[1]))
        elif node[1] < 1 or node[1] > web.places:
            return (way, "place")
        elif node[1] in seen:
            return (way, "again")
        else:
            seen[node[1]] = True
    return None if len(seen) == web.places else ((), "missing")


def check_plan(web, plan):
    """Raises BadPaper with the fault of the plan."""
    fault = plan_fault(web, plan)
    if fault is not None:
        raise BadPaper(fault[0], fault[1])


def plan_places(plan):
    """The places of a right plan, ascending."""
    if plan[0] == "place":
        return (plan[1],)
    return tuple(sorted(plan_places(plan[1]) + plan_places(plan[2])))


def plan_measure(web, plan):
    """The measure of the plan."""
    check_plan(web, plan)
    return most_ties(web, plan)


def most_ties(web, plan):
    """The most ties of a node with halves of a right plan, or 0 if there is none."""
    if plan[0] == "place":
        return 0
    ties = web.rim(plan_places(plan[1])) + web.rim(plan_places(plan[2]))
    return max(len(set(ties)), most_ties(web, plan[1]), most_ties(web, plan[2]))


def least_measure(web):
    """The least measure of a right plan."""
    return PlanSearch(web).least()


def halving(web, bound):
    """A right plan of a measure of at most the bound, or None."""
    search = PlanSearch(web)
    return search.plan() if search.least() <= bound else None
