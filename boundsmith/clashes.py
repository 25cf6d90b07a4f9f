"""Clashes: by which tasks a search splits a net."""

from boundsmith.crowdings import can_all, crowding_of
from boundsmith.parts import FIXED, LENGTH, TASKS

# Behind all ends of a plan that a search can meet, and above all worths of such; stretches may tell hours so great.
NEVER = 2000000


def clashes_of(book):
    """A list of all pairs (A, B), A less than B, of tasks that can't run in one hour."""
    many = len(book[TASKS])
    pairs = [(one, other) for one in range(many) for other in range(one + 1, many)]
    return [pair for pair in pairs if not can_all(book, list(pair))]


def estimate(book, node, one, other):
    """A bound for the node with one ahead of the other."""
    begin = max(node.begins[other], node.begins[one] + book[TASKS][one][LENGTH])
    if begin > dict(book[FIXED]).get(other, NEVER):
        return NEVER
    rest = node.rests[other]
    return node.bound if rest is None else max(node.bound, begin + book[TASKS][other][LENGTH] + rest)


def value_of(book, node, one, other):
    """How much it helps to tell which of two goes ahead: the lesser estimate, then the greater one."""
    told = sorted([estimate(book, node, one, other), estimate(book, node, other, one)])
    return told[0], told[1]


def run_at_once(book, begins, one, other):
    """Whether two tasks run in one hour, begun as begins tell."""
    first = begins[one] < begins[other] + book[TASKS][other][LENGTH]
    return first and begins[other] < begins[one] + book[TASKS][one][LENGTH]


def clash_at(book, clashes, node):
    """Tasks that can't all run in one hour, but do by the heads of a node; None where these are a good plan."""
    meeting = [pair for pair in clashes if run_at_once(book, node.begins, pair[0], pair[1])]
    if not meeting:
        return crowding_of(book, tuple(node.begins))
    _, pair = max([(value_of(book, node, one, other), (one, other)) for one, other in meeting])
    return list(pair)
