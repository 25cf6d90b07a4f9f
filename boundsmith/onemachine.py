"""One machine: rows that are worked on one at a time."""

from boundsmith.forms import LAST_HOUR, MOST_LENGTH, MOST_WEIGHT, is_row
from boundsmith.names import is_among
from boundsmith.rows import need_rows

LENGTH = 0
FROM = 1
BY = 2
WEIGHT = 3


def is_machine_row(thing):
    """Whether it is a tuple (LENGTH, FROM, BY, WEIGHT)."""
    if not is_row(thing, 4) or not is_among(thing[LENGTH], 1, MOST_LENGTH):
        return False
    if not is_among(thing[FROM], 0, LAST_HOUR) or not is_among(thing[BY], 0, LAST_HOUR):
        return False
    return is_among(thing[WEIGHT], 0, MOST_WEIGHT)


def due_order(rows):
    """The rows by BY, of like ones by number."""
    return [number for _, number in sorted([(row[BY], number) for number, row in enumerate(rows)])]


def ends_of(rows, order):
    """The ends of the rows of an order, one behind the other from hour 0 on."""
    ends = []
    hour = 0
    for number in order:
        hour += rows[number][LENGTH]
        ends.append(hour)
    return ends


def least_late(rows):
    """A tuple (LATE, ORDER, SET) of the least lateness without FROMs, and of a set that shows it."""
    need_rows(rows, is_machine_row)
    order = due_order(rows)
    late = [end - rows[number][BY] for number, end in zip(order, ends_of(rows, order))]
    most = max(late)
    # Of those up to the first one that is so late, that one has the greatest BY.
    return most, order, sorted(order[:late.index(most) + 1])


def pieces_of(rows):
    """The pieces of rows that may be left and taken up again, one behind the other."""
    left = [row[LENGTH] for row in rows]
    pieces = []
    hour = min([row[FROM] for row in rows])
    while any(left):
        waiting = [(row[BY], number) for number, row in enumerate(rows) if left[number] > 0 and row[FROM] <= hour]
        coming = [(row[FROM], row[BY], number) for number, row in enumerate(rows) if row[FROM] > hour]
        if waiting:
            due, number = min(waiting)
            # It is left only for one that goes ahead of it: so no two of its pieces touch.
            leaving = [start for start, other, rival in coming if (other, rival) < (due, number)]
            behind = min([hour + left[number]] + leaving)
            pieces.append((number, hour, behind))
            left[number] -= behind - hour
            hour = behind
        else:
            hour = min(coming)[0]
    return pieces


def parted_bound(rows, some):
    """The bound that a set of rows shows for parted work."""
    start = min([rows[number][FROM] for number in some])
    due = max([rows[number][BY] for number in some])
    return start + sum([rows[number][LENGTH] for number in some]) - due


def parted_set(rows, late):
    """A set of rows that shows the lateness of parted work."""
    # Of some set that shows it no row is left out that is there from its FROM on and is due by its BY.
    told = []
    for start in sorted({row[FROM] for row in rows}):
        for due in sorted({row[BY] for row in rows}):
            told.append([number for number, row in enumerate(rows) if row[FROM] >= start and row[BY] <= due])
    return [some for some in told if some and parted_bound(rows, some) == late][0]


def parted(rows):
    """A tuple (LATE, PIECES, SET) of the least lateness where rows may be left, and of a set that shows it."""
    need_rows(rows, is_machine_row)
    pieces = pieces_of(rows)
    late = max([behind - rows[number][BY] for number, _, behind in pieces])
    return late, sorted(pieces), parted_set(rows, late)


def lesser_of(one, other):
    """The lesser of two numbers, of which each may be None; None of two of these."""
    return min([number for number in (one, other) if number is not None], default=None)


def with_row(known, length, due):
    """A table's row with one row of work more, which is in time or not."""
    added = [None if hours is None or hours + length > due else hours + length for hours in known]
    return [lesser_of(without, beside) for without, beside in zip(known + [None], [None] + added)]


def in_time_by(table, order):
    """As many rows as can be in time, by due order, found from the table's end on."""
    told = []
    many = max([count for count, hours in enumerate(table[-1]) if hours is not None])
    for place in reversed(range(len(order))):
        ahead = table[place]
        if many > place or ahead[many] != table[place + 1][many]:
            told.append(order[place])
            many -= 1
    return told[::-1]


def fewest_late(rows):
    """A tuple (COUNT, ORDER, TABLE) of the fewest late rows without FROMs, and of the table that shows it."""
    need_rows(rows, is_machine_row)
    by_due = due_order(rows)
    table = [[0]]
    for number in by_due:
        table.append(with_row(table[-1], rows[number][LENGTH], rows[number][BY]))
    in_time = in_time_by(table, by_due)
    late = [number for number in by_due if number not in in_time]
    return len(late), in_time + late, table


def goes_ahead(one, other):
    """Whether a row may stand right ahead of another one in an order of the least sum."""
    return one[LENGTH] * other[WEIGHT] <= other[LENGTH] * one[WEIGHT]


def least_sum(rows):
    """A tuple (SUM, ORDER) of the least sum of WEIGHT times end, without FROMs."""
    need_rows(rows, is_machine_row)
    order = []
    for number, row in enumerate(rows):
        order.insert(len([other for other in order if goes_ahead(rows[other], row)]), number)
    return sum([rows[number][WEIGHT] * end for number, end in zip(order, ends_of(rows, order))]), order
