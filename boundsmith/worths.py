"""Worths that count something."""

from boundsmith.counting import NET_WORTHS, need_worth, own_tail
from boundsmith.errors import BadWorth
from boundsmith.parts import TASKS


def need_counted(book, worth):
    """Refuse what is neither span nor late, and that for which no task counts."""
    need_worth(worth, NET_WORTHS)
    if all([own_tail(book, worth, task) is None for task in range(len(book[TASKS]))]):
        raise BadWorth("no task counts for it")
