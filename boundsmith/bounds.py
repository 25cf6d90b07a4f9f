"""Bounds of ways, and of crowds on machines."""

from boundsmith.counting import NET_WORTHS, need_worth, own_tail
from boundsmith.errors import BadTasks
from boundsmith.nets import first_of, goes_round, heads, heads_by, is_task_of, steps, tails, tails_by
from boundsmith.parts import LENGTH, MACHINE, MACHINES, TASKS


def are_tasks(book, thing):
    """Whether it is a list of tasks of the book, one at least."""
    return isinstance(thing, list) and len(thing) > 0 and all([is_task_of(book, task) for task in thing])


def is_way(book, gaps, thing):
    """Whether it is a list of tasks, one at least, each right ahead of the next one."""
    return are_tasks(book, thing) and all([pair in gaps for pair in zip(thing, thing[1:])])


def lengths_of(book, tasks):
    """The lengths of the tasks, all together."""
    return sum([book[TASKS][task][LENGTH] for task in tasks])


def way_end(book, gaps, way):
    """The hour at which the last one of a way ends, if the first one begins by itself."""
    return first_of(book, way[0]) + lengths_of(book, way) + sum([gaps[pair] for pair in zip(way, way[1:])])


def bound_of_way(book, gaps, worth, way):
    """The bound of a way by a net's gaps, which do not go round; None of what is none, and without a bound."""
    if not is_way(book, gaps, way):
        return None
    rest = own_tail(book, worth, way[-1])
    return None if rest is None else way_end(book, gaps, way) + rest


def way_bound(book, arcs, worth, way):
    """The bound of a way; None of what is none, with a ring, and where the last one does not count."""
    gaps = steps(book, arcs)
    need_worth(worth, NET_WORTHS)
    return None if goes_round(book, gaps) else bound_of_way(book, gaps, worth, way)


def is_crowd(book, thing):
    """Whether it is a list of unlike tasks, one at least, all of one machine."""
    if not are_tasks(book, thing) or len(set(thing)) < len(thing):
        return False
    machine = book[TASKS][thing[0]][MACHINE]
    return machine != "" and all([book[TASKS][task][MACHINE] == machine for task in thing])


def crowd_sum(book, begins, rests, crowd):
    """The bound of a crowd by heads and tails; None where one of it has no tail."""
    last = [rests[task] for task in crowd]
    if None in last:
        return None
    return min([begins[task] for task in crowd]) + lengths_of(book, crowd) + min(last)


def bound_of_crowd(book, gaps, worth, tasks):
    """The bound of a crowd by a net's gaps; None of what is none, with a ring, and without a bound."""
    begins = heads_by(book, gaps)
    if begins is None or not is_crowd(book, tasks):
        return None
    return crowd_sum(book, begins, tails_by(book, gaps, worth), tasks)


def crowd_bound(book, arcs, worth, tasks):
    """The bound of a crowd; None of what is none, with a ring, and where one of it has no tail."""
    gaps = steps(book, arcs)
    need_worth(worth, NET_WORTHS)
    return bound_of_crowd(book, gaps, worth, tasks)


def crowd_for(book, begins, rests, machine):
    """A tuple (BOUND, TASKS) of a crowd of the machine with the greatest bound by heads and tails; None without one."""
    mine = [task for task, row in enumerate(book[TASKS]) if row[MACHINE] == machine and rests[task] is not None]
    told = None
    for start in sorted({begins[task] for task in mine}):
        length = 0
        # By tails falling, each of them in turn is the least one.
        for rest, task in sorted([(rests[task], task) for task in mine if begins[task] >= start], reverse=True):
            length += book[TASKS][task][LENGTH]
            if told is None or start + length + rest > told[0]:
                told = (start + length + rest, start, rest)
    if told is None:
        return None
    bound, start, rest = told
    return bound, [task for task in mine if begins[task] >= start and rests[task] >= rest]


def best_crowd(book, arcs, worth, machine):
    """A tuple (BOUND, TASKS) of a crowd of the machine with the greatest bound; None where there is none."""
    begins = heads(book, arcs)
    rests = tails(book, arcs, worth)
    if machine not in book[MACHINES]:
        raise BadTasks("no machine of the book")
    return None if begins is None else crowd_for(book, begins, rests, machine)
