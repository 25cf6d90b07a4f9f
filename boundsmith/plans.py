"""Plans: their form, their faults and their worths."""

from boundsmith.counting import ALL_WORTHS, need_worth
from boundsmith.errors import BadPlan
from boundsmith.names import is_among
from boundsmith.parts import BY, FIXED, FROM, GOODS, LENGTH, MACHINE, TASKS, WAITS, WEIGHT
from boundsmith.uses import end_of, used_at, uses_of_good

LAST_BEGIN = 1000000000


def need_plan(book, thing):
    """Refuse what is no plan for the book's tasks."""
    if not isinstance(thing, tuple) or len(thing) != len(book[TASKS]):
        raise BadPlan("no tuple of an hour for each task")
    if not all([is_among(hour, 0, LAST_BEGIN) for hour in thing]):
        raise BadPlan("not all of these are hours")


def from_fault(book, plan):
    """The fault of the first task that begins ahead of its FROM; None without one."""
    early = [task for task, row in enumerate(book[TASKS]) if plan[task] < row[FROM]]
    return ("from", early[0]) if early else None


def fixed_fault(book, plan):
    """The fault of the first task that is not at its BEGIN; None without one."""
    moved = [task for task, begin in book[FIXED] if plan[task] != begin]
    return ("fixed", min(moved)) if moved else None


def wait_fault(book, plan):
    """The fault of the first wait that is not kept; None without one."""
    for place, (first, second, gap) in enumerate(book[WAITS]):
        if plan[second] < end_of(book, plan, first) + gap:
            return ("wait", place)
    return None


def machine_fault(book, plan):
    """The fault of the first two tasks of one machine that run in one hour; None without such."""
    many = len(book[TASKS])
    for one in range(many):
        machine = book[TASKS][one][MACHINE]
        mates = [other for other in range(one + 1, many) if machine != "" and book[TASKS][other][MACHINE] == machine]
        for other in mates:
            if plan[one] < end_of(book, plan, other) and plan[other] < end_of(book, plan, one):
                return ("machine", one, other)
    return None


def good_fault(book, plan):
    """The fault of the first hour at which a good lacks; None without one."""
    begins = dict(enumerate(plan))
    uses = [uses_of_good(book, begins, good) for good, _ in book[GOODS]]
    # More of a good can only be needed where a task begins.
    for hour in sorted(set(plan)):
        for place, (_, many) in enumerate(book[GOODS]):
            if used_at(uses[place], hour) > many:
                return ("good", place, hour)
    return None


FAULTS = (from_fault, fixed_fault, wait_fault, machine_fault, good_fault)


def fault_of(book, plan):
    """The first fault of a plan; None of a good one."""
    need_plan(book, plan)
    for look in FAULTS:
        fault = look(book, plan)
        if fault is not None:
            return fault
    return None


def worth_of(book, plan, worth):
    """The worth of a plan; None of span and late where no task counts."""
    need_plan(book, plan)
    need_worth(worth, ALL_WORTHS)
    ended = [(begin + row[LENGTH], row[BY], row[WEIGHT]) for begin, row in zip(plan, book[TASKS])]
    if worth == "span":
        return max([end for end, _, weight in ended if weight > 0], default=None)
    if worth == "sum":
        return sum([end * weight for end, _, weight in ended])
    late = [end - due for end, due, _ in ended if due is not None]
    if worth == "late":
        return max(late, default=None)
    return len([hours for hours in late if hours > 0])
