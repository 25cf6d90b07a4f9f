"""A shop under way: what has begun stays, the rest is planned again and again."""

from boundsmith.deeds import Stand, begun_of, book_for_rest, done
from boundsmith.errors import NoDeed
from boundsmith.search import best_plan
from boundsmith.worths import need_counted


class Shop:
    """A shop with a book, a worth, the hour and perhaps a plan that is followed."""

    def __init__(self, book, worth):
        need_counted(book, worth)
        self._worth = worth
        # How it stood behind each deed that isn't undone, and what was undone, the last one last.
        self._stands = [Stand(book, 0, None)]
        self._undone = []

    def do(self, deed):
        """Do a deed, or refuse it."""
        stand = done(self._stands[-1], self._worth, deed)
        self._stands.append(stand)
        self._undone = []

    def undo(self):
        """Undo the last deed that isn't undone."""
        if len(self._stands) == 1:
            raise NoDeed("there is nothing to undo")
        self._undone.append(self._stands.pop())

    def redo(self):
        """Do again what was undone last."""
        if not self._undone:
            raise NoDeed("there is nothing to do again")
        self._stands.append(self._undone.pop())

    def the_hour(self):
        """The hour."""
        return self._stands[-1].hour

    def its_book(self):
        """The book by which the rest is planned."""
        return book_for_rest(self._stands[-1])

    def following(self):
        """The plan that is followed, None without one."""
        return self._stands[-1].plan

    def begun_tasks(self):
        """A rising list of tuples (TASK, BEGIN) of what has begun."""
        return begun_of(self._stands[-1])

    def planned(self, most):
        """The best plan of the rest, with a bound and a paper of so many cases at most."""
        return best_plan(self.its_book(), self._worth, most)
