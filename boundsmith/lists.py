"""Plans by lists."""

from boundsmith.books import ahead_of, gap_of
from boundsmith.orders import need_order
from boundsmith.parts import FIXED, FROM, GOODS, LENGTH, MACHINE, NEEDS, TASKS
from boundsmith.plans import fault_of
from boundsmith.uses import end_of, most_used, uses_of_good, uses_of_machine


def least_begin(book, begins, ahead, task):
    """The least hour for a task by its FROM and by the waits behind its forerunners."""
    ends = [end_of(book, begins, one) + gap_of(book, one, task) for one in ahead]
    return max([book[TASKS][task][FROM]] + ends)


def wants_of(book, begins, task):
    """For the machine and each good that a task wants a tuple (USES, ROOM): with no more used than ROOM it can run."""
    machine = book[TASKS][task][MACHINE]
    there = dict(book[GOODS])
    wants = [(uses_of_good(book, begins, good), there[good] - many) for good, many in book[TASKS][task][NEEDS]]
    if machine != "":
        wants.append((uses_of_machine(book, begins, machine), 0))
    return wants


def free_hour(book, begins, ahead, task):
    """The least hour at which a task can be placed beside those among begins."""
    wants = wants_of(book, begins, task)
    ends = [end_of(book, begins, other) for other in begins]
    length = book[TASKS][task][LENGTH]
    hour = least_begin(book, begins, ahead, task)
    while any([most_used(uses, hour, hour + length) > room for uses, room in wants]):
        # What is in the way is so till some task ends; behind the last end nothing is.
        hour = min([end for end in ends if end > hour])
    return hour


def plan_by(book, row):
    """The plan that a row of all tasks makes; None where it is not good."""
    need_order(len(book[TASKS]), row)
    ahead = ahead_of(book)
    begins = dict(book[FIXED])
    left = [task for task in row if task not in begins]
    while left:
        task = [one for one in left if all([other in begins for other in ahead[one]])][0]
        begins[task] = free_hour(book, begins, ahead[task], task)
        left.remove(task)
    plan = tuple([begins[task] for task in range(len(book[TASKS]))])
    return plan if fault_of(book, plan) is None else None
