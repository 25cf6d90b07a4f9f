"""Papers: what shows that no good plan has a worth below a bound, or that there is none at all."""

from boundsmith.bounds import bound_of_crowd, bound_of_way, is_way, way_end
from boundsmith.crowdings import can_all
from boundsmith.names import is_among, is_whole
from boundsmith.nets import goes_round, is_task_of, steps, with_arc
from boundsmith.parts import FIXED, LENGTH, TASKS
from boundsmith.stretches import shows_stretch
from boundsmith.worths import need_counted

KIND = 0
NUMBERS = 1
PAPERS = 2

LAST_HOUR = 9999999
MOST_WITHIN = 60
MOST_PAPERS = 2000


def reaches(bound, known):
    """Whether a bound that is known, or None, shows the bound."""
    return bound is not None and known is not None and known >= bound


def is_way_paper(book, gaps, worth, bound, paper):
    """Whether a way's bound shows it."""
    return reaches(bound, bound_of_way(book, gaps, worth, list(paper[NUMBERS])))


def is_crowd_paper(book, gaps, worth, bound, paper):
    """Whether a crowd's bound shows it."""
    return reaches(bound, bound_of_crowd(book, gaps, worth, list(paper[NUMBERS])))


def is_ring_paper(book, gaps, worth, bound, paper):
    """Whether the tasks go round: never so in a net that does not."""
    return False


def is_fixed_paper(book, gaps, worth, bound, paper):
    """Whether a way shows that its last one, fixed, would begin too late."""
    way = list(paper[NUMBERS])
    begins = dict(book[FIXED])
    if not is_way(book, gaps, way) or way[-1] not in begins:
        return False
    return way_end(book, gaps, way) - book[TASKS][way[-1]][LENGTH] > begins[way[-1]]


def is_stretch_paper(book, gaps, worth, bound, paper):
    """Whether a stretch shows it."""
    _, name, first, behind = paper
    return shows_stretch(book, gaps, worth, bound, name, first, behind)


def pairs_of(tasks):
    """All ordered pairs of the tasks, by the first one's place, then by the second one's."""
    return [(one, other) for place, one in enumerate(tasks) for other in tasks[:place] + tasks[place + 1:]]


def is_cases_paper(book, gaps, worth, bound, paper):
    """Whether the tasks can't all run in one hour, with as many papers as there are pairs."""
    tasks = paper[NUMBERS]
    return len(paper[PAPERS]) == len(tasks) * (len(tasks) - 1) and not can_all(book, list(tasks))


# Of each kind that has TASKS how many parts it has, and how many TASKS at least.
PARTS = {"way": (2, 1), "crowd": (2, 1), "ring": (2, 2), "fixed": (2, 1), "cases": (3, 2)}

# What each kind must hold in a net that does not go round, beside what is asked of its PAPERS.
HOLDS = {
    "way": is_way_paper,
    "crowd": is_crowd_paper,
    "ring": is_ring_paper,
    "fixed": is_fixed_paper,
    "stretch": is_stretch_paper,
    "cases": is_cases_paper,
}


def is_stretch_form(paper):
    """Whether a tuple has the form of a stretch."""
    if len(paper) != 4 or not isinstance(paper[1], str):
        return False
    _, _, first, behind = paper
    return is_among(first, -LAST_HOUR, LAST_HOUR) and is_among(behind, -LAST_HOUR, LAST_HOUR) and first < behind


def has_form(paper):
    """Whether it has the form of a paper, whatever its PAPERS are."""
    if not isinstance(paper, tuple) or len(paper) == 0 or not isinstance(paper[KIND], str):
        return False
    if paper[KIND] == "stretch":
        return is_stretch_form(paper)
    if paper[KIND] not in PARTS or len(paper) != PARTS[paper[KIND]][0]:
        return False
    if not isinstance(paper[NUMBERS], tuple) or not all([is_whole(task) for task in paper[NUMBERS]]):
        return False
    return paper[KIND] != "cases" or isinstance(paper[PAPERS], tuple)


def has_good_tasks(book, paper):
    """Whether its TASKS, if it has some, are enough tasks of the book, each once."""
    if paper[KIND] == "stretch":
        return True
    tasks = paper[NUMBERS]
    if len(tasks) < PARTS[paper[KIND]][1] or len(set(tasks)) < len(tasks):
        return False
    return all([is_task_of(book, task) for task in tasks])


class Reading:
    """A paper that is gone into part by part, for a book, a worth and a bound."""

    def __init__(self, book, worth, bound):
        self.book = book
        self.worth = worth
        self.bound = bound
        self.gone = 0

    def fault_at(self, path, paper, gaps):
        """The first fault (PATH, WORD) of the part at the path, in a net with such gaps; None without one."""
        self.gone += 1
        if self.gone > MOST_PAPERS or len(path) >= MOST_WITHIN or not has_form(paper):
            return path, "form"
        if not has_good_tasks(self.book, paper):
            return path, "tasks"
        if goes_round(self.book, gaps):
            return None
        holds = HOLDS[paper[KIND]]
        if not holds(self.book, gaps, self.worth, self.bound, paper):
            return path, paper[KIND]
        return self.fault_within(path, paper, gaps) if paper[KIND] == "cases" else None

    def fault_within(self, path, paper, gaps):
        """The first fault of the PAPERS of cases, each with the arc of its pair."""
        for place, arc in enumerate(pairs_of(paper[NUMBERS])):
            fault = self.fault_at(path + (place,), paper[PAPERS][place], with_arc(gaps, arc))
            if fault is not None:
                return fault
        return None


def fault_in(book, worth, bound, paper, arcs=None):
    """The first fault (PATH, WORD) of a paper that does not show the bound; None of one that shows it."""
    gaps = steps(book, [] if arcs is None else arcs)
    need_counted(book, worth)
    reading = Reading(book, worth, bound)
    return reading.fault_at((), paper, gaps)


def shows(book, worth, bound, paper, arcs=None):
    """Whether a paper shows the bound."""
    return fault_in(book, worth, bound, paper, arcs) is None
