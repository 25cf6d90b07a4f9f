"""The form of a book and of its rows, each by itself."""

from boundsmith.names import is_among, is_name
from boundsmith.parts import BY, FIXED, FROM, GOODS, LENGTH, MACHINE, MACHINES, NAME, NEEDS, TASKS, WAITS, WEIGHT

LAST_HOUR = 1000000
LAST_NUMBER = 1000000
MOST_TASKS = 30
MOST_OF_GOOD = 99
MOST_LENGTH = 1000
MOST_GAP = 1000
MOST_WEIGHT = 1000


def is_row(thing, many):
    """Whether it is a tuple of so many parts."""
    return isinstance(thing, tuple) and len(thing) == many


def are_rows(thing, least, most, is_one):
    """Whether it is a tuple of least to most parts, each of them such a one."""
    return isinstance(thing, tuple) and least <= len(thing) <= most and all([is_one(part) for part in thing])


def is_many_of_good(thing):
    """Whether it is a tuple (NAME, MANY), as among the goods, or as a need."""
    return is_row(thing, 2) and is_name(thing[0]) and is_among(thing[1], 1, MOST_OF_GOOD)


def are_needs(thing):
    """Whether it is a tuple of needs, however many."""
    return isinstance(thing, tuple) and all([is_many_of_good(part) for part in thing])


def is_task(thing):
    """Whether it is a tuple (NAME, LENGTH, MACHINE, NEEDS, FROM, BY, WEIGHT)."""
    if not is_row(thing, 7) or not is_name(thing[NAME]) or not is_among(thing[LENGTH], 1, MOST_LENGTH):
        return False
    if not is_name(thing[MACHINE]) and thing[MACHINE] != "":
        return False
    if not are_needs(thing[NEEDS]) or not is_among(thing[FROM], 0, LAST_HOUR):
        return False
    return (thing[BY] is None or is_among(thing[BY], 0, LAST_HOUR)) and is_among(thing[WEIGHT], 0, MOST_WEIGHT)


def is_wait(thing):
    """Whether it is a tuple (A, B, GAP) of unlike numbers of tasks."""
    if not is_row(thing, 3) or not is_among(thing[2], 0, MOST_GAP):
        return False
    first, second, _ = thing
    return is_among(first, 0, LAST_NUMBER) and is_among(second, 0, LAST_NUMBER) and first != second


def is_fixing(thing):
    """Whether it is a tuple (TASK, BEGIN)."""
    return is_row(thing, 2) and is_among(thing[0], 0, LAST_NUMBER) and is_among(thing[1], 0, LAST_HOUR)


def is_book_form(thing):
    """Whether it has the form of a book."""
    if not is_row(thing, 5):
        return False
    if not are_rows(thing[MACHINES], 0, 6, is_name) or not are_rows(thing[GOODS], 0, 4, is_many_of_good):
        return False
    if not are_rows(thing[TASKS], 1, MOST_TASKS, is_task) or not are_rows(thing[WAITS], 0, 60, is_wait):
        return False
    return are_rows(thing[FIXED], 0, 30, is_fixing)
