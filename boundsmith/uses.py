"""What placed tasks use of machines and goods, hour by hour."""

from boundsmith.parts import LENGTH, MACHINE, NEEDS, TASKS


def end_of(book, begins, task):
    """The hour at which a task ends, begun as begins tell."""
    return begins[task] + book[TASKS][task][LENGTH]


def uses_of_machine(book, begins, machine):
    """A list of tuples (BEGIN, END, 1) of the tasks among begins that are of the machine."""
    mine = [task for task in begins if book[TASKS][task][MACHINE] == machine]
    return [(begins[task], end_of(book, begins, task), 1) for task in mine]


def uses_of_good(book, begins, good):
    """A list of tuples (BEGIN, END, MANY) of the tasks among begins that need the good."""
    needed = {task: dict(book[TASKS][task][NEEDS]).get(good, 0) for task in begins}
    return [(begins[task], end_of(book, begins, task), needed[task]) for task in begins if needed[task] > 0]


def used_at(uses, hour):
    """How many are used in an hour."""
    return sum([many for begin, end, many in uses if begin <= hour < end])


def most_used(uses, first, behind):
    """How many are used at most in one of the hours from first to behind."""
    # More can only be used where a use begins.
    hours = [first] + [begin for begin, _, _ in uses if first < begin < behind]
    return max([used_at(uses, hour) for hour in hours])
