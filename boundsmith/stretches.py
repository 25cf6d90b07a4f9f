"""Stretches: hours in which more must lie of a machine or a good than there is room for."""

from boundsmith.counting import NET_WORTHS, need_worth
from boundsmith.nets import followers_of, goes_round, heads_by, steps, tails_by
from boundsmith.orders import order_of
from boundsmith.parts import FIXED, GOODS, LENGTH, MACHINE, MACHINES, NEEDS, TASKS


def net_of(book, arcs, worth):
    """The gaps of a net, for a worth that can be asked for."""
    gaps = steps(book, arcs)
    need_worth(worth, NET_WORTHS)
    return gaps


def own_latest(book, bound, rests, task):
    """The latest end of a task by the bound and by its own BEGIN; None without any."""
    told = [begin + book[TASKS][fixed][LENGTH] for fixed, begin in book[FIXED] if fixed == task]
    if bound is not None and rests[task] is not None:
        told.append(bound - 1 - rests[task])
    return min(told, default=None)


def latest_by(book, gaps, worth, bound):
    """The latest ends of all tasks by a net's gaps, None of those without any; None with a ring."""
    order = order_of(len(book[TASKS]), list(gaps))
    if order is None:
        return None
    rests = tails_by(book, gaps, worth)
    behind = followers_of(book, gaps)
    told = [own_latest(book, bound, rests, task) for task in range(len(book[TASKS]))]
    for task in reversed(order):
        for follower, gap in behind[task]:
            if told[follower] is not None:
                latest = told[follower] - book[TASKS][follower][LENGTH] - gap
                told[task] = latest if told[task] is None else min(told[task], latest)
    return told


def hours_within(begin, length, first, behind):
    """How many hours, from begin on and so many, lie from first to behind."""
    return max(0, min(begin + length, behind) - max(begin, first))


def lying(head, latest, length, first, behind):
    """How many hours of a task, begun at its head or ended at its latest end, must lie from first to behind."""
    if latest is None:
        return 0
    soonest = hours_within(head, length, first, behind)
    return min(soonest, hours_within(latest - length, length, first, behind))


def room_of(book, name):
    """How many there are of a machine, else of a good; 0 of what is none of both."""
    if name in book[MACHINES]:
        return 1
    return max([many for good, many in book[GOODS] if good == name], default=0)


def wants_of(book, name):
    """A list of tuples (TASK, MANY) of the tasks that want a machine, else a good."""
    if name in book[MACHINES]:
        return [(task, 1) for task, row in enumerate(book[TASKS]) if row[MACHINE] == name]
    return [(task, many) for task, row in enumerate(book[TASKS]) for good, many in row[NEEDS] if good == name]


def loads_of(book, begins, ends, name):
    """A list of tuples (HEAD, LATEST, LENGTH, MANY) of the tasks with a latest end that want a machine or a good."""
    loads = [(begins[task], ends[task], book[TASKS][task][LENGTH], many) for task, many in wants_of(book, name)]
    return [load for load in loads if load[1] is not None]


def ends_too_late(loads):
    """Whether a task, begun at its head, ends behind its latest end."""
    return any([head + length > latest for head, latest, length, _ in loads])


def is_crowded(loads, room, first, behind):
    """Whether more must lie from first to behind than there is room for."""
    must = sum([many * lying(head, latest, length, first, behind) for head, latest, length, many in loads])
    return must > room * max(0, behind - first)


def shows_stretch(book, gaps, worth, bound, name, first, behind):
    """Whether a stretch shows the bound by a net's gaps, which do not go round."""
    loads = loads_of(book, heads_by(book, gaps), latest_by(book, gaps, worth, bound), name)
    return ends_too_late(loads) or is_crowded(loads, room_of(book, name), first, behind)


def latest_ends(book, arcs, worth, bound):
    """The latest ends of all tasks, None of those without any; None with a ring."""
    return latest_by(book, net_of(book, arcs, worth), worth, bound)


def must_lie(book, arcs, worth, bound, task, first, behind):
    """How many hours of a task must lie from first to behind; None with a ring."""
    gaps = net_of(book, arcs, worth)
    begins = heads_by(book, gaps)
    if begins is None:
        return None
    latest = latest_by(book, gaps, worth, bound)[task]
    return lying(begins[task], latest, book[TASKS][task][LENGTH], first, behind)


def is_stretch(book, arcs, worth, bound, name, first, behind):
    """Whether a stretch shows the bound; False with a ring, and of what is no name of a machine or a good."""
    gaps = net_of(book, arcs, worth)
    if goes_round(book, gaps):
        return False
    return shows_stretch(book, gaps, worth, bound, name, first, behind)


def first_rising(firsts, behinds):
    """The first (FIRST, BEHIND) of these hours with FIRST below BEHIND; None without one."""
    for first in firsts:
        for behind in behinds:
            if first < behind:
                return first, behind
    return None


def first_too_full(loads, room, firsts, behinds):
    """The first (FIRST, BEHIND) from which to which more must lie than there is room for; None without one.

    None of the loads ends too late.
    """
    for first in firsts:
        # As the head is no later than the latest begin, the lesser hours are those behind FIRST, begun at the head, or
        # those ahead of BEHIND, ended at the latest end.
        hours = [(min(length, head + length - first), max(latest - length, first), many)
                 for head, latest, length, many in loads if head + length > first]
        most = sum([length * many for length, _, many in hours])
        for behind in behinds:
            free = room * (behind - first)
            if 0 <= free < most and free < sum([min(length, behind - begin) * many
                                                for length, begin, many in hours if begin < behind]):
                return first, behind
    return None


def first_crowded(loads, room, firsts, behinds):
    """The first (FIRST, BEHIND) of a stretch that shows the bound; None without one."""
    if ends_too_late(loads):
        return first_rising(firsts, behinds)
    return first_too_full(loads, room, firsts, behinds)


def names_of(book):
    """The goods, then the machines; a name that is both stands as the machine's alone."""
    return [good for good, _ in book[GOODS] if good not in book[MACHINES]] + list(book[MACHINES])


def stretch_by(book, gaps, worth, bound, begins):
    """A (NAME, FIRST, BEHIND), FIRST a head and BEHIND a latest end, that shows the bound; None without one."""
    ends = latest_by(book, gaps, worth, bound)
    for name in names_of(book):
        loads = loads_of(book, begins, ends, name)
        firsts = sorted({head for head, _, _, _ in loads})
        found = first_crowded(loads, room_of(book, name), firsts, sorted({latest for _, latest, _, _ in loads}))
        if found is not None:
            return (name,) + found
    return None


def stretch_for(book, arcs, worth, bound):
    """The first (NAME, FIRST, BEHIND) of a stretch that shows the bound; None without one, and with a ring."""
    gaps = net_of(book, arcs, worth)
    begins = heads_by(book, gaps)
    if begins is None:
        return None
    ends = latest_by(book, gaps, worth, bound)
    timed = [(begins[task], ends[task], row[LENGTH]) for task, row in enumerate(book[TASKS]) if ends[task] is not None]
    firsts = sorted({hour for head, latest, length in timed for hour in (head, latest - length)})
    behinds = sorted({hour for head, latest, length in timed for hour in (latest, head + length)})
    for name in names_of(book):
        found = first_crowded(loads_of(book, begins, ends, name), room_of(book, name), firsts, behinds)
        if found is not None:
            return (name,) + found
    return None
