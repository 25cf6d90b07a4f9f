"""Closed hours: books that are shut by fixed tasks."""

from boundsmith.books import need_book
from boundsmith.errors import BadRows
from boundsmith.forms import LAST_HOUR, MOST_LENGTH, MOST_TASKS, is_row
from boundsmith.names import LETTERS, is_among
from boundsmith.parts import MACHINES, NAME, TASKS
from boundsmith.plans import need_plan

MOST_WEEKS = 30
MOST_TIMES = 30


def is_week(book, thing):
    """Whether it is a tuple (MACHINE, FIRST, BEHIND, EVERY, MANY) of a machine of the book."""
    if not is_row(thing, 5):
        return False
    machine, first, behind, every, many = thing
    if machine not in book[MACHINES]:
        return False
    if not is_among(first, 0, LAST_HOUR) or not is_among(behind, 0, LAST_HOUR) or first >= behind:
        return False
    return is_among(every, 1, LAST_HOUR) and is_among(many, 1, MOST_TIMES)


def need_weeks(book, weeks):
    """Refuse what is no book, then what are no weeks."""
    need_book(book)
    if not isinstance(weeks, list) or len(weeks) > MOST_WEEKS or not all([is_week(book, week) for week in weeks]):
        raise BadRows("no list of weeks of the book's machines")


def joined(hours):
    """The pairs (FIRST, BEHIND) rising, those that meet or touch as one."""
    told = []
    for first, behind in sorted(hours):
        if told and first <= told[-1][1]:
            told[-1] = (told[-1][0], max(told[-1][1], behind))
        else:
            told.append((first, behind))
    return told


def closed_hours(book, weeks):
    """A list of tuples (MACHINE, FIRST, BEHIND) of the hours in which the machines are closed."""
    told = []
    for machine in book[MACHINES]:
        hours = [(first + turn * every, behind + turn * every)
                 for one, first, behind, every, many in weeks if one == machine for turn in range(many)]
        told.extend([(machine, first, behind) for first, behind in joined(hours)])
    return told


def cut_of(closing):
    """A closing cut from the front into such of a task's greatest length and a rest."""
    machine, first, behind = closing
    return [(machine, hour, min(hour + MOST_LENGTH, behind)) for hour in range(first, behind, MOST_LENGTH)]


def free_names(book, many):
    """The first two-letter names, rising, that no task has."""
    taken = [row[NAME] for row in book[TASKS]]
    names = [one + other for one in LETTERS for other in LETTERS]
    return [name for name in names if name not in taken][:many]


def shutting(book, weeks):
    """The closings as tasks need them, cut; refused where these would be too many or begin too late."""
    need_weeks(book, weeks)
    closed = closed_hours(book, weeks)
    hours = sum([behind - first for _, first, behind in closed])
    # So many hours want more tasks than there may be; only fewer are cut.
    if hours > MOST_TASKS * MOST_LENGTH:
        raise BadRows("more tasks than a book may have")
    cut = [part for closing in closed for part in cut_of(closing)]
    if len(book[TASKS]) + len(cut) > MOST_TASKS or any([first > LAST_HOUR for _, first, _ in cut]):
        raise BadRows("more tasks than a book may have, or a later begin")
    return cut


def closings(book, weeks):
    """The hours in which the machines are closed, by machines, then rising, those that meet or touch as one."""
    need_weeks(book, weeks)
    return closed_hours(book, weeks)


def shut_book(book, weeks):
    """The book with a fixed task for each closing."""
    cut = shutting(book, weeks)
    machines, goods, tasks, waits, fixed = book
    more = []
    begins = []
    for name, (machine, first, behind) in zip(free_names(book, len(cut)), cut):
        begins.append((len(tasks) + len(more), first))
        more.append((name, behind - first, machine, (), first, None, 0))
    return machines, goods, tasks + tuple(more), waits, fixed + tuple(begins)


def shut_plan(book, weeks, plan):
    """The plan with the begins of the closings."""
    cut = shutting(book, weeks)
    need_plan(book, plan)
    return plan + tuple([first for _, first, _ in cut])
