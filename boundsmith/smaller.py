"""Papers made smaller: of what is told nothing can be left out."""

from boundsmith.copies import copy_of
from boundsmith.crowdings import can_all
from boundsmith.errors import BadPaper
from boundsmith.names import is_whole
from boundsmith.nets import goes_round, steps, with_arc
from boundsmith.papers import KIND, NUMBERS, PAPERS, Reading, pairs_of, shows
from boundsmith.worths import need_counted


class Shown:
    """A book, a worth and the bound that papers have to show."""

    def __init__(self, book, worth, bound):
        self.book = book
        self.worth = worth
        self.bound = bound

    def is_by(self, paper, gaps):
        """Whether a paper shows it in a net with such gaps."""
        return Reading(self.book, self.worth, self.bound).fault_at((), paper, gaps) is None


def without(things, place):
    """A tuple without what stands at the place."""
    return things[:place] + things[place + 1:]


def fewer_tasks(shown, paper, gaps):
    """A paper without PAPERS, and without such of its TASKS as it can do without, one after the other."""
    place = 0
    while place < len(paper[NUMBERS]):
        less = (paper[KIND], without(paper[NUMBERS], place)) + paper[PAPERS:]
        if shown.is_by(less, gaps):
            # Those ahead may be left out now, too.
            paper = less
            place = 0
        else:
            place += 1
    return paper


def without_task(paper, place):
    """Cases without the task at the place, and without the PAPERS of its pairs."""
    task = paper[NUMBERS][place]
    kept = [part for arc, part in zip(pairs_of(paper[NUMBERS]), paper[PAPERS]) if task not in arc]
    return (paper[KIND], without(paper[NUMBERS], place), tuple(kept))


def fewer_cases(shown, paper):
    """Cases without such of their TASKS as they can do without; their PAPERS show the bound."""
    place = 0
    while place < len(paper[NUMBERS]):
        rest = list(without(paper[NUMBERS], place))
        if can_all(shown.book, rest):
            place += 1
        else:
            paper = without_task(paper, place)
            place = 0
    return paper


def first_alone(shown, parts, gaps):
    """The first of the parts that shows the bound without the arc of its pair; None where none does."""
    for part in parts:
        if shown.is_by(part, gaps):
            return part
    return None


def smaller_cases(shown, paper, gaps):
    """Smaller cases in a net that does not go round, or one of their PAPERS in their place."""
    alone = first_alone(shown, paper[PAPERS], gaps)
    if alone is not None:
        return smaller_part(shown, alone, gaps)
    paper = fewer_cases(shown, paper)
    parts = []
    for arc, part in zip(pairs_of(paper[NUMBERS]), paper[PAPERS]):
        parts.append(smaller_part(shown, part, with_arc(gaps, arc)))
    # What can't do without something by more arcs can't by fewer ones: such a part stays as it is.
    alone = first_alone(shown, parts, gaps)
    return (paper[KIND], paper[NUMBERS], tuple(parts)) if alone is None else alone


def smaller_part(shown, paper, gaps):
    """A smaller part for the place of one that shows the bound in a net with such gaps."""
    if paper[KIND] == "stretch":
        return paper
    if paper[KIND] != "cases":
        return fewer_tasks(shown, paper, gaps)
    if goes_round(shown.book, gaps):
        return fewer_tasks(shown, (paper[KIND], paper[NUMBERS], ()), gaps)
    return smaller_cases(shown, paper, gaps)


def smaller(book, worth, bound, paper):
    """A smaller paper that shows the bound, of which nothing can be left out."""
    need_counted(book, worth)
    if not (bound is None or is_whole(bound)) or not shows(book, worth, bound, paper):
        raise BadPaper("the paper does not show the bound")
    return copy_of(smaller_part(Shown(book, worth, bound), paper, steps(book, [])))
