"""One machine alone: plans of the least sum, and with the fewest late tasks."""

from boundsmith.books import need_book
from boundsmith.errors import BadBook
from boundsmith.forms import LAST_HOUR
from boundsmith.onemachine import fewest_late, least_sum
from boundsmith.parts import BY, FIXED, FROM, LENGTH, MACHINE, NEEDS, TASKS, WAITS, WEIGHT


def is_single(book):
    """Whether all tasks are of one machine, and nothing else keeps any of them off."""
    machines = [row[MACHINE] for row in book[TASKS]]
    if machines[0] == "" or any([machine != machines[0] for machine in machines]):
        return False
    if any([len(row[NEEDS]) > 0 or row[FROM] > 0 for row in book[TASKS]]):
        return False
    return len(book[WAITS]) == 0 and len(book[FIXED]) == 0


def need_single(book):
    """Refuse what is no book, and a book that is not single."""
    need_book(book)
    if not is_single(book):
        raise BadBook("single")


def rows_of(book):
    """The rows of a single book's tasks, for one machine alone."""
    return [(row[LENGTH], 0, LAST_HOUR if row[BY] is None else row[BY], row[WEIGHT]) for row in book[TASKS]]


def plan_of(book, order):
    """The plan by which the tasks run in an order, one behind the other."""
    begins = {}
    hour = 0
    for task in order:
        begins[task] = hour
        hour += book[TASKS][task][LENGTH]
    return tuple([begins[task] for task in range(len(order))])


def shown_sum(rows):
    """Of each row LENGTH times WEIGHT and, of each two, the lesser one of LENGTH times the other one's WEIGHT."""
    told = 0
    for place, (length, _, _, weight) in enumerate(rows):
        told += length * weight
        told += sum([min(length * other, another * weight) for another, _, _, other in rows[:place]])
    return told


def sum_plan(book):
    """A tuple (SUM, PLAN) of a good plan of the least sum."""
    need_single(book)
    least, order = least_sum(rows_of(book))
    return least, plan_of(book, order)


def sum_shown(book):
    """The sum below which no good plan has one."""
    need_single(book)
    return shown_sum(rows_of(book))


def count_plan(book):
    """A tuple (COUNT, PLAN, TABLE) of a good plan with the fewest late tasks, and of the table that shows it."""
    need_single(book)
    count, order, table = fewest_late(rows_of(book))
    return count, plan_of(book, order), table
