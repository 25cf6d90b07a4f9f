"""Papers as texts."""

from boundsmith.errors import BadText
from boundsmith.names import number_of
from boundsmith.papers import MOST_PAPERS, MOST_WITHIN

CASES = "cases"
STRETCH = "stretch"
KINDS = ("way", "crowd", "ring", "fixed", CASES)


def row_of(paper):
    """The row of a paper, without those of its PAPERS."""
    if paper[0] == STRETCH:
        return " ".join([str(part) for part in paper])
    return " ".join([paper[0]] + [str(task) for task in paper[1]])


def paper_text(paper):
    """The text of a paper, a row for each of its parts, each ahead of its PAPERS."""
    rows = []
    todo = [paper]
    while todo:
        part = todo.pop()
        rows.append(row_of(part))
        if part[0] == CASES:
            todo.extend(part[2][::-1])
    return "\n".join(rows)


def hour_of(word):
    """The hour that a word writes, - ahead of one below nought; None of what writes none."""
    if not word.startswith("-"):
        return number_of(word)
    hour = number_of(word[1:])
    return None if hour is None or hour == 0 else -hour


def read_stretch(words):
    """The stretch that the words of a row tell; None of none."""
    if len(words) != 4 or words[1] == "":
        return None
    first = hour_of(words[2])
    behind = hour_of(words[3])
    if first is None or behind is None or first >= behind:
        return None
    return (STRETCH, words[1], first, behind)


def read_part(row):
    """The part of a paper that a row tells, cases without their PAPERS; None of what tells none."""
    words = row.split(" ")
    if words[0] == STRETCH:
        return read_stretch(words)
    if words[0] not in KINDS:
        return None
    tasks = tuple([number_of(word) for word in words[1:]])
    return None if None in tasks else (words[0], tasks)


class Unread:
    """Cases whose PAPERS are not all read."""

    def __init__(self, tasks):
        self.tasks = tasks
        self.papers = []

    def is_full(self):
        """Whether there is a paper for each pair."""
        return len(self.papers) == len(self.tasks) * (len(self.tasks) - 1)


def put_in(around, part):
    """Put a part in the innermost cases, closing those that are full by it; the whole paper, None till it is whole."""
    paper = part
    if part[0] == CASES:
        around.append(Unread(part[1]))
        if not around[-1].is_full():
            return None
        around.pop()
        paper = part + ((),)
    while around:
        around[-1].papers.append(paper)
        if not around[-1].is_full():
            return None
        full = around.pop()
        paper = (CASES, full.tasks, tuple(full.papers))
    return paper


def paper_of(text):
    """The paper that a text tells."""
    if not isinstance(text, str):
        raise BadText(0)
    rows = text.split("\n")
    around = []
    paper = None
    for at, row in enumerate(rows):
        part = read_part(row)
        # The cases around a row are just those within which its paper lies.
        if part is None or paper is not None or at >= MOST_PAPERS or len(around) >= MOST_WITHIN:
            raise BadText(at + 1)
        paper = put_in(around, part)
    if paper is None:
        raise BadText(len(rows) + 1)
    return paper
