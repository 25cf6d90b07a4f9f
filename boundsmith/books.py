"""Books: which are let by, and what their waits tell."""

from boundsmith.errors import BadBook
from boundsmith.forms import is_book_form
from boundsmith.orders import order_of
from boundsmith.parts import FIXED, FROM, GOODS, MACHINE, MACHINES, NEEDS, TASKS, WAITS


def lacks_form(thing):
    """Whether it has not the form of a book."""
    return not is_book_form(thing)


def firsts(rows):
    """The first part of each row."""
    return [row[0] for row in rows]


def has_twice(book):
    """Whether something stands twice where it may stand once."""
    columns = [list(book[MACHINES]), firsts(book[GOODS]), firsts(book[TASKS]), firsts(book[FIXED])]
    columns.extend([firsts(task[NEEDS]) for task in book[TASKS]])
    return any([len(set(column)) < len(column) for column in columns])


def has_unknown(book):
    """Whether a machine, a good or a task is named that is not there."""
    machines, goods, tasks, waits, fixed = book
    wanted = [task[MACHINE] for task in tasks if task[MACHINE] != ""]
    needed = [good for task in tasks for good in firsts(task[NEEDS])]
    named = [task for first, second, _ in waits for task in (first, second)] + firsts(fixed)
    known = firsts(goods)
    if any([machine not in machines for machine in wanted]) or any([good not in known for good in needed]):
        return True
    return any([task >= len(tasks) for task in named])


def has_too_many(book):
    """Whether a task needs more of a good than there are."""
    there = dict(book[GOODS])
    return any([many > there[good] for task in book[TASKS] for good, many in task[NEEDS]])


def has_early(book):
    """Whether a fixed task begins ahead of its FROM."""
    return any([begin < book[TASKS][task][FROM] for task, begin in book[FIXED]])


def has_ring(book):
    """Whether the waits go round."""
    return order_of(len(book[TASKS]), [(first, second) for first, second, _ in book[WAITS]]) is None


# Each of these rests on those ahead of it: only what has the form can be asked for the rest.
WRONGS = (
    ("form", lacks_form),
    ("twice", has_twice),
    ("unknown", has_unknown),
    ("many", has_too_many),
    ("early", has_early),
    ("ring", has_ring),
)


def need_book(thing):
    """Refuse what is no book, by the first word that tells why."""
    for word, is_wrong in WRONGS:
        if is_wrong(thing):
            raise BadBook(word)


def ahead_of(book):
    """For each task the rising list of those right ahead of it by waits."""
    ahead = []
    for task in range(len(book[TASKS])):
        ahead.append(sorted({first for first, second, _ in book[WAITS] if second == task}))
    return ahead


def gap_of(book, a, b):
    """The greatest gap that waits tell from a to b; None where no wait does."""
    return max([gap for first, second, gap in book[WAITS] if first == a and second == b], default=None)
