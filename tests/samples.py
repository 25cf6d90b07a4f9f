"""Books and things that the tests share, and a look at what is raised."""

import contextlib
import random
import signal

NAMES = ["t" + first + second for first in "abcdef" for second in "abcdef"]


def task(name="a", length=1, machine="", needs=(), start=0, due=None, weight=1):
    return (name, length, machine, needs, start, due, weight)


def book_of_tasks(tasks, machines=(), goods=(), waits=(), fixed=()):
    return (tuple(machines), tuple(goods), tuple(tasks), tuple(waits), tuple(fixed))


def plain_book(many, waits=(), fixed=(), length=1, weight=1):
    """So many tasks of no machine."""
    return book_of_tasks([task(NAMES[k], length, weight=weight) for k in range(many)], waits=waits, fixed=fixed)


def shop_book():
    """A book with something in each of its parts."""
    return (
        ("saw", "press"),
        (("oil", 3), ("crew", 2)),
        (
            ("cut", 4, "saw", (("oil", 2),), 0, 9, 5),
            ("trim", 2, "saw", (("crew", 1), ("oil", 1)), 1, None, 0),
            ("bend", 3, "press", (), 2, 20, 7),
            ("rest", 1, "", (("crew", 2),), 0, 0, 1),
        ),
        ((0, 2, 3), (1, 3, 0)),
        ((1, 6),),
    )


def put(thing, path, value):
    """The same tuple with a value in the place that a path tells."""
    if not path:
        return value
    at = path[0]
    return thing[:at] + (put(thing[at], path[1:], value),) + thing[at + 1:]


def deep(kind, many):
    """So many lists, tuples or dicts within one another."""
    thing = 0
    for _ in range(many):
        thing = {"list": [thing], "tuple": (thing,), "dict": {0: thing}}[kind]
    return thing


def things():
    """Things of many kinds, none of them a book, a plan, a list of arcs, a way, a crowd or a worth."""
    return [
        None, True, False, 0, 1, -1, 10 ** 999, -(10 ** 999), "", "a", "0", "SPAN", "a\nb", "x" * 20000,
        (), (0,), (None,), ("span",), ([],), ({},), ((),), (True, False), ((0, 1), [0, 1]),
        [None], [True, False], ["a"], [[0, 1]], [{}], [()], [(0,)], [(0, 0)], [10 ** 999], [-1],
        {}, {0: 1}, {"span": 0}, {(0, 1): 0},
        deep("list", 150), deep("tuple", 150), deep("dict", 150),
    ]


def error_of(call, *told):
    """What a call raises; None where it raises nothing that the package tells."""
    try:
        call(*told)
    except ValueError as error:
        return error
    return None


def name_of_error(call, *told):
    """The name of what a call raises; None where it raises nothing."""
    error = error_of(call, *told)
    return None if error is None else type(error).__name__


@contextlib.contextmanager
def within(seconds):
    """Fail what takes longer."""
    def stop(_, __):
        raise AssertionError("took too long")
    before = signal.signal(signal.SIGALRM, stop)
    signal.alarm(seconds)
    try:
        yield
    finally:
        signal.alarm(0)
        signal.signal(signal.SIGALRM, before)


def some_needs(rng, goods):
    return tuple((good, rng.randint(1, many)) for good, many in goods if rng.random() < 0.4)


def some_pairs(rng, many, count):
    """Pairs of tasks that do not go round, in any numbers' order."""
    order = list(range(many))
    rng.shuffle(order)
    pairs = []
    for _ in range(count if many > 1 else 0):
        first, second = sorted(rng.sample(range(many), 2))
        pairs.append((order[first], order[second]))
    return pairs


def some_book(rng, most=6):
    """A small book that is let by, by a number of chance that is told."""
    many = rng.randint(1, most)
    machines = ("saw", "press")[:rng.randint(0, 2)]
    goods = (("oil", rng.randint(1, 4)), ("saw", 2))[:rng.randint(0, 2)]
    tasks = []
    for k in range(many):
        due = rng.choice([None, rng.randint(0, 20)])
        machine = rng.choice(("",) + machines + machines)
        tasks.append(task(NAMES[k], rng.randint(1, 5), machine, some_needs(rng, goods),
                          rng.choice([0, 0, rng.randint(0, 9)]), due, rng.choice([0, 1, 3])))
    waits = [(a, b, rng.choice([0, rng.randint(0, 4)])) for a, b in some_pairs(rng, many, rng.randint(0, 5))]
    fixed = [(k, tasks[k][4] + rng.randint(0, 9)) for k in range(many) if rng.random() < 0.2]
    return book_of_tasks(tasks, machines, goods, waits, fixed)


def some_arcs(rng, book, count=4):
    """Arcs of a book; waits and arcs may go round."""
    many = len(book[2])
    return [tuple(rng.sample(range(many), 2)) for _ in range(rng.randint(0, count) if many > 1 else 0)]


def some_books(many, seed=11, most=6):
    rng = random.Random(seed)
    return [some_book(rng, most) for _ in range(many)]


def gaps_by_hand(book, arcs):
    """The gaps of all pairs that go right ahead, by the words of the document."""
    gaps = {}
    for a in range(len(book[2])):
        for b in range(len(book[2])):
            told = [gap for first, second, gap in book[3] if (first, second) == (a, b)]
            if told or (a, b) in arcs:
                gaps[(a, b)] = max(told + [0])
    return gaps


def ways_by_hand(book, arcs):
    """All ways of a net, gone through one by one; None with a ring."""
    gaps = gaps_by_hand(book, arcs)
    ways = [[k] for k in range(len(book[2]))]
    for way in ways:
        for a, b in gaps:
            if way[-1] == a:
                if b in way:
                    return None
                ways.append(way + [b])
    return ways


def begin_by_hand(book, number):
    return dict(book[4]).get(number, book[2][number][4])


def tail_by_hand(book, worth, number):
    """The own tail of a task, None where it does not count."""
    due, weight = book[2][number][5:]
    if worth == "span":
        return 0 if weight > 0 else None
    return None if due is None else -due


def length_by_hand(book, arcs, way):
    """All LENGTHs of a way and the gaps between."""
    gaps = gaps_by_hand(book, arcs)
    return sum(book[2][k][1] for k in way) + sum(gaps[pair] for pair in zip(way, way[1:]))
