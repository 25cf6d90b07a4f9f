"""Crowdings: tasks that can't all run in one hour."""

from boundsmith.parts import GOODS, MACHINE, NEEDS, TASKS
from boundsmith.uses import end_of


def mates_of(book, tasks):
    """All pairs of the tasks that are of one machine."""
    machines = [(task, book[TASKS][task][MACHINE]) for task in tasks if book[TASKS][task][MACHINE] != ""]
    pairs = []
    for place, (task, machine) in enumerate(machines):
        pairs.extend([[task, other] for other, another in machines[place + 1:] if another == machine])
    return pairs


def lacking_of(book, tasks, good, many):
    """The fewest of the tasks that need more of a good than so many; None where all do not."""
    needs = [(dict(book[TASKS][task][NEEDS]).get(good, 0), task) for task in tasks]
    needed = 0
    told = []
    for need, task in sorted(needs, reverse=True):
        needed += need
        told.append(task)
        if needed > many:
            return told
    return None


def fewest_of(book, tasks):
    """The fewest of the tasks that can't all run in one hour, rising; None where all can."""
    lacking = [lacking_of(book, tasks, good, many) for good, many in book[GOODS]]
    told = mates_of(book, tasks) + [some for some in lacking if some is not None]
    return min([(len(some), sorted(some)) for some in told])[1] if told else None


def crowding_of(book, plan):
    """The fewest tasks that can't all run in the first hour at which some don't; None where there is no such hour."""
    # More tasks can only run where one begins.
    for hour in sorted(set(plan)):
        running = [task for task, begin in enumerate(plan) if begin <= hour < end_of(book, plan, task)]
        some = fewest_of(book, running)
        if some is not None:
            return some
    return None


def can_all(book, tasks):
    """Whether the tasks can all run in one hour."""
    return fewest_of(book, tasks) is None
