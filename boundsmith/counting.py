"""Worths, and which tasks count for them."""

from boundsmith.errors import BadWorth
from boundsmith.parts import BY, TASKS, WEIGHT

NET_WORTHS = ("span", "late")
ALL_WORTHS = ("span", "late", "count", "sum")


def need_worth(worth, worths):
    """Refuse what is none of the worths."""
    if worth not in worths:
        raise BadWorth("no worth that can be asked for here")


def own_tail(book, worth, task):
    """What a task itself adds behind its end for span or late; None where it does not count."""
    due = book[TASKS][task][BY]
    if worth == "span":
        return 0 if book[TASKS][task][WEIGHT] > 0 else None
    return None if due is None else -due
