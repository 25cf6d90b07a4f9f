"""Plans of less than a goal, or papers that show that there are none."""

from boundsmith.clashes import NEVER
from boundsmith.copies import copy_of
from boundsmith.errors import BadWorth
from boundsmith.growing import Search, try_lists, try_nodes
from boundsmith.names import is_whole
from boundsmith.search import MOST_CASES, need_most
from boundsmith.worths import need_counted


class InTime:
    """A plan of less than the goal, and its worth."""

    def __init__(self, plan, value):
        self.plan = copy_of(plan)
        self.value = value


class Never:
    """A paper that shows the goal: no plan is less; or None, where no plan at all is good."""

    def __init__(self, paper):
        self.paper = copy_of(paper)


class Open:
    """A bound below the goal, and a paper that shows it."""

    def __init__(self, bound, paper):
        self.bound = bound
        self.paper = copy_of(paper)


def below(book, worth, goal, most, is_any_known):
    """What a search for a plan of less than the goal tells, where it is known or not that some plan is good."""
    # A plan that is known is not less than the goal: so the goal is only cut where none is.
    limit = min(goal, NEVER)
    search = Search(book, worth, most, limit)
    try_nodes(search, True)
    paper = search.made_paper()
    if search.plan is not None:
        return InTime(search.plan, search.value)
    if not search.stuck and is_any_known:
        return Never(paper)
    # Where perhaps no plan at all is good, a paper for the goal is not yet the one that is asked for.
    return Open(min(search.stuck + [limit - 1]), paper)


def in_hours(book, worth, goal, most):
    """A plan of less than the goal, or that there is none, or what so many cases show."""
    if not is_whole(goal):
        raise BadWorth("the goal is no whole number")
    need_counted(book, worth)
    need_most(most)
    # Only papers that are told are held to the cases: whether some plan is good is asked of as many as there may be.
    search = Search(book, worth, MOST_CASES, None)
    try_lists(search)
    if search.plan is None:
        try_nodes(search, True)
        if search.plan is None and not search.stuck and search.cases <= most:
            return Never(search.made_paper())
    if search.plan is not None and search.value < goal:
        return InTime(search.plan, search.value)
    return below(book, worth, goal, most, search.plan is not None)
