"""Deeds: what each of them makes of how a shop stands."""

from boundsmith.books import need_book
from boundsmith.errors import BadBook, BadDeed, BadPlan, BadWorth
from boundsmith.forms import LAST_HOUR, MOST_LENGTH
from boundsmith.names import is_among
from boundsmith.nets import is_task_of
from boundsmith.parts import BY, FIXED, FROM, LENGTH, MACHINES, TASKS, WAITS
from boundsmith.plans import fault_of
from boundsmith.worths import need_counted


class Stand:
    """How a shop stands: its book, the hour, and the plan that is followed, None without one."""

    def __init__(self, book, hour, plan):
        self.book = book
        self.hour = hour
        self.plan = plan


def put_in(things, place, thing):
    """A tuple with another thing at the place."""
    return things[:place] + (thing,) + things[place + 1:]


def book_for_rest(stand):
    """The book by which the rest is planned."""
    fixed = dict(stand.book[FIXED])
    tasks = []
    for task, row in enumerate(stand.book[TASKS]):
        tasks.append(row if task in fixed else put_in(row, FROM, max(row[FROM], stand.hour)))
    return put_in(stand.book, TASKS, tuple(tasks))


def begun_of(stand):
    """A rising list of tuples (TASK, BEGIN) of what has begun."""
    return sorted([(task, begin) for task, begin in stand.book[FIXED] if begin < stand.hour])


def has_begun(stand, task):
    """Whether a task has begun."""
    return task in dict(begun_of(stand))


def is_good(book, thing):
    """Whether it is a good plan of the book."""
    try:
        return fault_of(book, thing) is None
    except BadPlan:
        return False


def need(is_so):
    """Refuse a deed for which it is not so."""
    if not is_so:
        raise BadDeed("the deed cannot be")


def with_plan(stand, plan):
    """The stand with a plan that is followed."""
    need(is_good(book_for_rest(stand), plan))
    return Stand(stand.book, stand.hour, plan)


def with_hour(stand, hour):
    """The stand at a later hour; what the plan that is followed begins ahead of it is fixed."""
    need(stand.plan is not None and is_among(hour, stand.hour + 1, LAST_HOUR))
    fixed = dict(stand.book[FIXED])
    begun = [(task, begin) for task, begin in enumerate(stand.plan) if begin < hour and task not in fixed]
    return Stand(put_in(stand.book, FIXED, stand.book[FIXED] + tuple(begun)), hour, stand.plan)


def with_task(stand, task, place, thing):
    """The stand with another thing at a place of a task's row."""
    rows = stand.book[TASKS]
    book = put_in(stand.book, TASKS, put_in(rows, task, put_in(rows[task], place, thing)))
    return Stand(book, stand.hour, stand.plan)


def with_length(stand, task, length):
    """The stand with another length of a task."""
    need(is_task_of(stand.book, task) and is_among(length, 1, MOST_LENGTH))
    for begun, begin in begun_of(stand):
        if begun == task:
            need(begin + stand.book[TASKS][task][LENGTH] > stand.hour and begin + length >= stand.hour)
    return with_task(stand, task, LENGTH, length)


def with_due(stand, task, due):
    """The stand with another BY of a task."""
    need(is_task_of(stand.book, task))
    return with_task(stand, task, BY, due)


def with_row(stand, row):
    """The stand with a task more, and without a plan."""
    return Stand(put_in(stand.book, TASKS, stand.book[TASKS] + (row,)), stand.hour, None)


def with_wait(stand, one, other, gap):
    """The stand with a wait more."""
    need(is_task_of(stand.book, other) and not has_begun(stand, other))
    return Stand(put_in(stand.book, WAITS, stand.book[WAITS] + ((one, other, gap),)), stand.hour, stand.plan)


def with_closed(stand, name, machine, first, behind):
    """The stand with hours in which a machine is closed, and without a plan."""
    need(machine in stand.book[MACHINES] and is_among(first, stand.hour, LAST_HOUR))
    need(is_among(behind, first + 1, first + MOST_LENGTH))
    number = len(stand.book[TASKS])
    more = with_row(stand, (name, behind - first, machine, (), first, None, 0))
    return Stand(put_in(more.book, FIXED, more.book[FIXED] + ((number, first),)), stand.hour, None)


def number_without(task, gone):
    """The number of a task where another one is gone."""
    return task - 1 if task > gone else task


def without_row(stand, gone):
    """The stand without a task."""
    need(is_task_of(stand.book, gone) and not has_begun(stand, gone))
    machines, goods, tasks, waits, fixed = stand.book
    waits = [(number_without(one, gone), number_without(other, gone), gap)
             for one, other, gap in waits if gone not in (one, other)]
    fixed = [(number_without(task, gone), begin) for task, begin in fixed if task != gone]
    book = (machines, goods, tasks[:gone] + tasks[gone + 1:], tuple(waits), tuple(fixed))
    plan = None if stand.plan is None else stand.plan[:gone] + stand.plan[gone + 1:]
    return Stand(book, stand.hour, plan)


# Of each deed how many parts stand behind its word, and what it makes of a stand by them.
DEEDS = {
    "plan": (1, with_plan),
    "hour": (1, with_hour),
    "length": (2, with_length),
    "task": (1, with_row),
    "gone": (1, without_row),
    "wait": (3, with_wait),
    "due": (2, with_due),
    "closed": (4, with_closed),
}


def need_let_by(stand, worth):
    """Refuse a deed behind which the book is not let by, or nothing counts in it."""
    try:
        need_book(stand.book)
        need_counted(stand.book, worth)
    except (BadBook, BadWorth):
        raise BadDeed("the book would not be let by, or nothing would count in it") from None


def followed_on(stand):
    """The stand with its plan if that is good still, else without one."""
    if stand.plan is None or is_good(book_for_rest(stand), stand.plan):
        return stand
    return Stand(stand.book, stand.hour, None)


def done(stand, worth, thing):
    """How a shop stands behind a deed."""
    need(isinstance(thing, tuple) and len(thing) > 0 and isinstance(thing[0], str) and thing[0] in DEEDS)
    word, *parts = thing
    many, change = DEEDS[word]
    need(len(parts) == many)
    stand = change(stand, *parts)
    need_let_by(stand, worth)
    return followed_on(stand)
