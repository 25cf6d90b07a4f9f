"""Books as texts."""

from boundsmith.books import need_book
from boundsmith.errors import BadText
from boundsmith.names import is_name, number_of
from boundsmith.parts import NAME, TASKS

NONE_WORD = "-"


def task_text(task):
    """The row of a task."""
    name, length, machine, needs, start, due, weight = task
    due_word = NONE_WORD if due is None else str(due)
    words = ["task", name, str(length), machine or NONE_WORD, str(start), due_word, str(weight)]
    return " ".join(words + [f"{good}:{many}" for good, many in needs])


def book_text(book):
    """The text of a book, a row for each of its parts."""
    machines, goods, tasks, waits, fixed = book
    names = [task[NAME] for task in tasks]
    rows = [f"machine {name}" for name in machines]
    rows.extend([f"good {name} {many}" for name, many in goods])
    rows.extend([task_text(task) for task in tasks])
    rows.extend([f"wait {names[first]} {names[second]} {gap}" for first, second, gap in waits])
    rows.extend([f"fixed {names[task]} {begin}" for task, begin in fixed])
    return "\n".join(rows)


def whole(parts):
    """The parts, if none of them is None; else None."""
    return None if None in parts else parts


def name_of(word):
    """The name that a word is; None of what is none."""
    return word if is_name(word) else None


def machine_of(word):
    """The machine that a word of a task tells, "" for no machine; None of what tells nothing."""
    return "" if word == NONE_WORD else name_of(word)


def need_of(word):
    """The need (GOOD, MANY) that a word of a task tells; None of what tells none."""
    good, _, many = word.partition(":")
    return whole((name_of(good), number_of(many)))


def read_machine(words):
    """The machine, alone in a tuple, that the words behind the first one tell; None of none."""
    return whole((name_of(words[0]),)) if len(words) == 1 else None


def read_pair(words):
    """The pair (NAME, NUMBER) that the words behind the first one tell; None of none."""
    return whole((name_of(words[0]), number_of(words[1]))) if len(words) == 2 else None


def read_task(words):
    """The task that the words behind the first one tell; None of none."""
    if len(words) < 6:
        return None
    needs = whole(tuple([need_of(word) for word in words[6:]]))
    start, due, weight = [number_of(word) for word in words[3:6]]
    told = whole((name_of(words[0]), number_of(words[1]), machine_of(words[2]), needs, start, weight))
    if told is None or (due is None and words[4] != NONE_WORD):
        return None
    return told[:5] + (due, weight)


def read_wait(words):
    """The wait (NAME, NAME, GAP) that the words behind the first one tell; None of none."""
    return whole((name_of(words[0]), name_of(words[1]), number_of(words[2]))) if len(words) == 3 else None


# The sorts of rows, in the order of a book's parts: first words, readers, and how many names of tasks stand ahead.
SORTS = (
    ("machine", read_machine, 0),
    ("good", read_pair, 0),
    ("task", read_task, 0),
    ("wait", read_wait, 2),
    ("fixed", read_pair, 1),
)


def by_numbers(told, many, numbers):
    """What a row tells, its first parts being names of tasks, by their numbers; None where one is no task's."""
    if told is None or many == 0:
        return told
    return whole(tuple([numbers.get(name) for name in told[:many]]) + told[many:])


def read_row(row, numbers):
    """The place in a book of what a row tells, and what it tells; (-1, None) of what is no row."""
    words = row.split(" ")
    for place, (sort, read, naming) in enumerate(SORTS):
        if words[0] == sort:
            return place, by_numbers(read(words[1:]), naming, numbers)
    return -1, None


def book_of(text):
    """The book that a text tells."""
    if not isinstance(text, str):
        raise BadText(0)
    parts = [[] for _ in SORTS]
    numbers = {}
    latest = 0
    for at, row in enumerate(text.split("\n")):
        place, told = read_row(row, numbers)
        if told is None or place < latest:
            raise BadText(at + 1)
        latest = place
        if place == TASKS:
            # Of two tasks of one name the first one is meant.
            numbers.setdefault(told[NAME], len(parts[TASKS]))
        parts[place].append(told)
    machines, goods, tasks, waits, fixed = [tuple(rows) for rows in parts]
    book = (tuple([row[0] for row in machines]), goods, tasks, waits, fixed)
    need_book(book)
    return book
