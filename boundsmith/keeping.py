"""Papers that are kept, and books for which they still show."""

from boundsmith.books import gap_of
from boundsmith.copies import copy_of
from boundsmith.errors import BadPaper, BadWorth, NoDeed
from boundsmith.names import is_whole
from boundsmith.papers import shows
from boundsmith.parts import BY, FIXED, FROM, GOODS, LENGTH, MACHINE, MACHINES, NEEDS, TASKS, WAITS, WEIGHT
from boundsmith.worths import need_counted

MOST_KEPT = 60


def is_scarcer(goods, others):
    """Whether each of the goods is among the others, as many or fewer."""
    many = dict(others)
    return all([name in many and many[name] <= there for name, there in goods])


def needs_more(needs, others):
    """Whether each of the needs is among the others, as great or greater."""
    many = dict(others)
    return all([name in many and many[name] >= need for name, need in needs])


def is_due_sooner(due, other):
    """Whether a BY, if it is one, is told by the other, too, as early or earlier."""
    return due is None or (other is not None and other <= due)


def is_harder_task(task, other):
    """Whether another task is as hard as the task."""
    if other[LENGTH] < task[LENGTH] or other[MACHINE] != task[MACHINE] or other[FROM] < task[FROM]:
        return False
    if not needs_more(task[NEEDS], other[NEEDS]) or not is_due_sooner(task[BY], other[BY]):
        return False
    return task[WEIGHT] == 0 or other[WEIGHT] > 0


def waits_longer(waits, other):
    """Whether each of the waits is told by another book, the gap as great or greater."""
    gaps = [(gap, gap_of(other, first, second)) for first, second, gap in waits]
    return all([longer is not None and longer >= gap for gap, longer in gaps])


def is_harder(book, other):
    """Whether another book is as hard as the book, so that each paper of the book shows for it, too."""
    if other[MACHINES] != book[MACHINES] or not is_scarcer(book[GOODS], other[GOODS]):
        return False
    if len(other[TASKS]) < len(book[TASKS]) or not waits_longer(book[WAITS], other):
        return False
    if not all([is_harder_task(task, another) for task, another in zip(book[TASKS], other[TASKS])]):
        return False
    return all([fixing in other[FIXED] for fixing in book[FIXED]])


def is_shown(book, worth, bound, paper):
    """Whether the worth counts something in the book and the paper shows the bound there."""
    try:
        return shows(book, worth, bound, paper)
    except BadWorth:
        return False


class Papers:
    """Papers that are kept, each with its worth and its bound."""

    def __init__(self):
        self._kept = {}
        self._given = 0

    def put(self, book, worth, bound, paper):
        """Keep a paper that shows a bound for a book; its number."""
        need_counted(book, worth)
        if not (bound is None or is_whole(bound)) or not shows(book, worth, bound, paper):
            raise BadPaper("the paper does not show the bound")
        self._given += 1
        self._kept[self._given] = (worth, bound, copy_of(paper))
        if len(self._kept) > MOST_KEPT:
            del self._kept[min(list(self._kept))]
        return self._given

    def drop(self, number):
        """Keep a paper no longer."""
        self._need(number)
        del self._kept[number]

    def told_paper(self, number):
        """A tuple (WORTH, BOUND, PAPER) of a paper that is kept."""
        self._need(number)
        return copy_of(self._kept[number])

    def still(self, book):
        """The rising list of the numbers of papers that show their bounds for a book."""
        return [number for number, (worth, bound, paper) in self._kept.items() if is_shown(book, worth, bound, paper)]

    def best_bound(self, book, worth):
        """The number of the first paper that shows the greatest bound of a worth for a book; None without one."""
        told = {number: self._kept[number][1] for number in self.still(book) if self._kept[number][0] == worth}
        for number in told:
            if told[number] is None:
                return number
        return min([(-told[number], number) for number in told])[1] if told else None

    def _need(self, number):
        """Refuse what is no number of a paper that is kept."""
        if not is_whole(number) or number not in self._kept:
            raise NoDeed("no paper of that number is kept")
