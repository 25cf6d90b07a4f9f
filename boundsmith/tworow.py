"""Two machines in a row: each row is worked on by the first one, then by the second one."""

from boundsmith.errors import BadTasks
from boundsmith.forms import MOST_LENGTH, is_row
from boundsmith.names import is_among
from boundsmith.orders import need_order
from boundsmith.rows import need_rows

FRONT = "front"
BACK = "back"


def is_pair(thing):
    """Whether it is a tuple (ONE, TWO)."""
    return is_row(thing, 2) and is_among(thing[0], 1, MOST_LENGTH) and is_among(thing[1], 1, MOST_LENGTH)


def front_order(rows):
    """Those with ONE no greater than TWO, by ONE rising."""
    return [number for _, number in sorted([(one, k) for k, (one, two) in enumerate(rows) if one <= two])]


def back_order(rows):
    """Those with ONE greater than TWO, by TWO falling."""
    return [number for _, number in sorted([(-two, k) for k, (one, two) in enumerate(rows) if one > two])]


def span_by(rows, one, two):
    """The span of two orders, that of the first machine and that of the second one."""
    ready = {}
    hour = 0
    for number in one:
        hour += rows[number][0]
        ready[number] = hour
    end = 0
    for number in two:
        end = max(end, ready[number]) + rows[number][1]
    return end


def bound_by(rows, side, some):
    """The sum that a set of rows shows from its side."""
    others = [pair for number, pair in enumerate(rows) if number not in some]
    ones = [rows[number][0] for number in some]
    twos = [rows[number][1] for number in some]
    own = min(ones) + sum(twos) if side == FRONT else sum(ones) + min(twos)
    return sum([min(pair) for pair in others]) + own


def set_for(rows, span):
    """A side and a set of rows that show the least span."""
    ahead = front_order(rows)
    behind = back_order(rows)
    # The span is the sum of a way by which the first machine hands one row over to the second one. With a row of the
    # front that one and the front's rest show it, with a row of the back that one and the back's rows ahead of it.
    sides = [(FRONT, tuple(sorted(ahead[place:]))) for place in range(len(ahead))]
    sides.extend([(BACK, tuple(sorted(behind[:place + 1]))) for place in range(len(behind))])
    return [(side, some) for side, some in sides if bound_by(rows, side, some) == span][0]


def least_span(rows):
    """A tuple (SPAN, ORDER, (SIDE, SET)) of the least span, and of a set that shows it."""
    need_rows(rows, is_pair)
    order = front_order(rows) + back_order(rows)
    span = span_by(rows, order, order)
    return span, order, set_for(rows, span)


def is_set(rows, thing):
    """Whether it is a rising tuple of rows' numbers, one at least."""
    if not isinstance(thing, tuple) or len(thing) == 0:
        return False
    if not all([is_among(number, 0, len(rows) - 1) for number in thing]):
        return False
    return all([one < other for one, other in zip(thing, thing[1:])])


def set_bound(rows, side, some):
    """The sum that a set of rows shows from its side."""
    need_rows(rows, is_pair)
    if side not in (FRONT, BACK):
        raise BadTasks("no side")
    if not is_set(rows, some):
        raise BadTasks("no rising tuple of rows")
    return bound_by(rows, side, some)


def span_of(rows, one, two):
    """The span where the first machine goes by one order, the second one by another."""
    need_rows(rows, is_pair)
    need_order(len(rows), one)
    need_order(len(rows), two)
    return span_by(rows, one, two)
