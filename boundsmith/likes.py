"""Like machines, on which rows may be left and taken up again."""

from boundsmith.errors import BadTasks
from boundsmith.forms import MOST_LENGTH
from boundsmith.names import is_among
from boundsmith.rows import need_rows

MOST_MACHINES = 6


def is_length(thing):
    """Whether it is a LENGTH."""
    return is_among(thing, 1, MOST_LENGTH)


def pieces_by(machines, rows, span):
    """The pieces of rows that fill one machine after the other, each up to the span; so they rise as they come."""
    pieces = []
    begin = 0
    for number, length in enumerate(rows):
        # No row is longer than the span: what goes over to the next machine ends there before it begins here.
        for machine in range(machines):
            first = max(begin - machine * span, 0)
            behind = min(begin + length - machine * span, span)
            if first < behind:
                pieces.append((machine, number, first, behind))
        begin += length
    return pieces


def parted_span(machines, rows):
    """A tuple (SPAN, PIECES, WHY) of the least span of rows on so many like machines."""
    if not is_among(machines, 1, MOST_MACHINES):
        raise BadTasks("no number of machines")
    need_rows(rows, is_length)
    most = max(rows)
    span = max(most, (sum(rows) + machines - 1) // machines)
    why = ("one", rows.index(most)) if span == most else ("all",)
    return span, pieces_by(machines, rows, span), why
