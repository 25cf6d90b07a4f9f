"""Best plans, with bounds and papers that show them."""

from boundsmith.copies import copy_of
from boundsmith.errors import BadMost, NoPlan
from boundsmith.growing import Search, try_lists, try_nodes
from boundsmith.names import is_among
from boundsmith.worths import need_counted

MOST_CASES = 2000


class Best:
    """A plan with its worth, None where none was met, and a bound with a paper that shows it and has so many cases."""

    def __init__(self, plan, value, bound, paper, cases):
        self.plan = copy_of(plan)
        self.value = value
        self.bound = bound
        self.paper = copy_of(paper)
        self.cases = cases


def need_most(most):
    """Refuse what is no number of cases."""
    if not is_among(most, 0, MOST_CASES):
        raise BadMost("no number of cases")


def best_plan(book, worth, most):
    """The best plan that is met, and a bound with a paper of so many cases at most."""
    need_counted(book, worth)
    need_most(most)
    search = Search(book, worth, most, None)
    try_lists(search)
    try_nodes(search, False)
    paper = search.made_paper()
    if search.plan is None and not search.stuck:
        raise NoPlan(paper)
    known = [] if search.plan is None else [search.value]
    return Best(search.plan, search.value, min(search.stuck + known), paper, search.cases)
