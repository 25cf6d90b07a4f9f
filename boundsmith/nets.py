"""Nets of waits and arcs: heads, tails and longest ways."""

from boundsmith.counting import NET_WORTHS, need_worth, own_tail
from boundsmith.errors import BadArcs
from boundsmith.names import is_among
from boundsmith.orders import order_of
from boundsmith.parts import FIXED, FROM, LENGTH, TASKS, WAITS

MOST_ARCS = 900


def is_task_of(book, thing):
    """Whether it is the number of a task of the book."""
    return is_among(thing, 0, len(book[TASKS]) - 1)


def is_arc(book, thing):
    """Whether it is a pair of unlike tasks of the book."""
    if not isinstance(thing, tuple) or len(thing) != 2:
        return False
    return is_task_of(book, thing[0]) and is_task_of(book, thing[1]) and thing[0] != thing[1]


def need_arcs(book, arcs):
    """Refuse what is no list of arcs."""
    if not isinstance(arcs, list) or len(arcs) > MOST_ARCS or not all([is_arc(book, arc) for arc in arcs]):
        raise BadArcs("no list of arcs between tasks of the book")


def first_of(book, task):
    """The hour at which a task begins by itself: its BEGIN, if it is fixed, else its FROM."""
    for fixed, begin in book[FIXED]:
        if fixed == task:
            return begin
    return book[TASKS][task][FROM]


def steps(book, arcs):
    """The gaps of all pairs (A, B) of which A goes right ahead of B, rising."""
    need_arcs(book, arcs)
    gaps = {arc: 0 for arc in arcs}
    for first, second, gap in book[WAITS]:
        gaps[(first, second)] = max(gap, gaps.get((first, second), 0))
    return {pair: gaps[pair] for pair in sorted(gaps)}


def with_arc(gaps, arc):
    """A net's gaps with one arc more."""
    more = {pair: gaps[pair] for pair in gaps}
    more[arc] = gaps.get(arc, 0)
    return more


def goes_round(book, gaps):
    """Whether a net of such gaps goes round."""
    return order_of(len(book[TASKS]), list(gaps)) is None


def is_ring(book, arcs):
    """Whether waits and arcs go round."""
    return goes_round(book, steps(book, arcs))


def followers_of(book, gaps):
    """For each task a list of tuples (TASK, GAP) of those right behind it."""
    behind = [[] for _ in book[TASKS]]
    for first, second in gaps:
        behind[first].append((second, gaps[(first, second)]))
    return behind


def heads_by(book, gaps):
    """The heads of all tasks by a net's gaps; None with a ring."""
    order = order_of(len(book[TASKS]), list(gaps))
    if order is None:
        return None
    behind = followers_of(book, gaps)
    told = [first_of(book, task) for task in range(len(book[TASKS]))]
    for task in order:
        end = told[task] + book[TASKS][task][LENGTH]
        for follower, gap in behind[task]:
            told[follower] = max(told[follower], end + gap)
    return told


def tails_by(book, gaps, worth):
    """The tails of all tasks by a net's gaps, None of those without one; None with a ring."""
    order = order_of(len(book[TASKS]), list(gaps))
    if order is None:
        return None
    behind = followers_of(book, gaps)
    told = [own_tail(book, worth, task) for task in range(len(book[TASKS]))]
    for task in reversed(order):
        for follower, gap in behind[task]:
            if told[follower] is not None:
                rest = gap + book[TASKS][follower][LENGTH] + told[follower]
                told[task] = rest if told[task] is None else max(told[task], rest)
    return told


def heads(book, arcs):
    """The heads of all tasks; None with a ring."""
    return heads_by(book, steps(book, arcs))


def tails(book, arcs, worth):
    """The tails of all tasks, None of those without one; None with a ring."""
    gaps = steps(book, arcs)
    need_worth(worth, NET_WORTHS)
    return tails_by(book, gaps, worth)


def way_to(book, gaps, begins, task):
    """A way to the task by which it has its head."""
    way = [task]
    while begins[way[0]] > first_of(book, way[0]):
        now = way[0]
        ends = {first: begins[first] + book[TASKS][first][LENGTH] for first, second in gaps if second == now}
        way.insert(0, min([first for first in ends if ends[first] + gaps[(first, now)] == begins[now]]))
    return way


def way_behind(book, gaps, rests, worth, task):
    """A way on from the task, without the task itself, by which it has its tail."""
    way = []
    now = task
    while rests[now] != own_tail(book, worth, now):
        behind = [second for first, second in gaps if first == now and rests[second] is not None]
        more = {second: book[TASKS][second][LENGTH] + rests[second] for second in behind}
        now = min([second for second in more if gaps[(now, second)] + more[second] == rests[now]])
        way.append(now)
    return way


def longest_by(book, gaps, worth, begins, rests):
    """A tuple (BOUND, WAY) of the bound of a net by its gaps, heads and tails; None where no task has a tail."""
    sums = {}
    for task, row in enumerate(book[TASKS]):
        if rests[task] is not None:
            sums[task] = begins[task] + row[LENGTH] + rests[task]
    if not sums:
        return None
    bound = max(list(sums.values()))
    top = min([task for task in sums if sums[task] == bound])
    return bound, way_to(book, gaps, begins, top) + way_behind(book, gaps, rests, worth, top)


def longest(book, arcs, worth):
    """A tuple (BOUND, WAY) of the net's bound; None with a ring, and where no task has a tail."""
    gaps = steps(book, arcs)
    need_worth(worth, NET_WORTHS)
    begins = heads_by(book, gaps)
    if begins is None:
        return None
    return longest_by(book, gaps, worth, begins, tails_by(book, gaps, worth))
