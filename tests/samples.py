"""Books and things that the tests share, and a look at what is raised."""

import contextlib
import itertools
import random
import signal

NAMES = ["t" + first + second for first in "abcdef" for second in "abcdef"]


def task(name="a", length=1, machine="", needs=(), start=0, due=None, weight=1):
    return (name, length, machine, needs, start, due, weight)


def book_of_tasks(tasks, machines=(), goods=(), waits=(), fixed=()):
    return (tuple(machines), tuple(goods), tuple(tasks), tuple(waits), tuple(fixed))


def plain_book(many, waits=(), fixed=(), length=1, weight=1):
    """So many tasks of no machine."""
    return book_of_tasks([task(NAMES[k], length, weight=weight) for k in range(many)], waits=waits, fixed=fixed)


def shop_book():
    """A book with something in each of its parts."""
    return (
        ("saw", "press"),
        (("oil", 3), ("crew", 2)),
        (
            ("cut", 4, "saw", (("oil", 2),), 0, 9, 5),
            ("trim", 2, "saw", (("crew", 1), ("oil", 1)), 1, None, 0),
            ("bend", 3, "press", (), 2, 20, 7),
            ("rest", 1, "", (("crew", 2),), 0, 0, 1),
        ),
        ((0, 2, 3), (1, 3, 0)),
        ((1, 6),),
    )


def put(thing, path, value):
    """The same tuple with a value in the place that a path tells."""
    if not path:
        return value
    at = path[0]
    return thing[:at] + (put(thing[at], path[1:], value),) + thing[at + 1:]


def deep(kind, many):
    """So many lists, tuples or dicts within one another."""
    thing = 0
    for _ in range(many):
        thing = {"list": [thing], "tuple": (thing,), "dict": {0: thing}}[kind]
    return thing


def things():
    """Things of many kinds, none of them a book, a plan, a list of arcs, a way, a crowd or a worth."""
    return [
        None, True, False, 0, 1, -1, 10 ** 999, -(10 ** 999), "", "a", "0", "SPAN", "a\nb", "x" * 20000,
        (), (0,), (None,), ("span",), ([],), ({},), ((),), (True, False), ((0, 1), [0, 1]),
        [None], [True, False], ["a"], [[0, 1]], [{}], [()], [(0,)], [(0, 0)], [10 ** 999], [-1],
        {}, {0: 1}, {"span": 0}, {(0, 1): 0},
        deep("list", 150), deep("tuple", 150), deep("dict", 150),
    ]


def error_of(call, *told):
    """What a call raises; None where it raises nothing that the package tells."""
    try:
        call(*told)
    except ValueError as error:
        return error
    return None


def name_of_error(call, *told):
    """The name of what a call raises; None where it raises nothing."""
    error = error_of(call, *told)
    return None if error is None else type(error).__name__


@contextlib.contextmanager
def within(seconds):
    """Fail what takes longer."""
    def stop(_, __):
        raise AssertionError("took too long")
    before = signal.signal(signal.SIGALRM, stop)
    signal.alarm(seconds)
    try:
        yield
    finally:
        signal.alarm(0)
        signal.signal(signal.SIGALRM, before)


def some_needs(rng, goods):
    return tuple((good, rng.randint(1, many)) for good, many in goods if rng.random() < 0.4)


def some_pairs(rng, many, count):
    """Pairs of tasks that do not go round, in any numbers' order."""
    order = list(range(many))
    rng.shuffle(order)
    pairs = []
    for _ in range(count if many > 1 else 0):
        first, second = sorted(rng.sample(range(many), 2))
        pairs.append((order[first], order[second]))
    return pairs


def some_book(rng, most=6):
    """A small book that is let by, by a number of chance that is told."""
    many = rng.randint(1, most)
    machines = ("saw", "press")[:rng.randint(0, 2)]
    goods = (("oil", rng.randint(1, 4)), ("saw", 2))[:rng.randint(0, 2)]
    tasks = []
    for k in range(many):
        due = rng.choice([None, rng.randint(0, 20)])
        machine = rng.choice(("",) + machines + machines)
        tasks.append(task(NAMES[k], rng.randint(1, 5), machine, some_needs(rng, goods),
                          rng.choice([0, 0, rng.randint(0, 9)]), due, rng.choice([0, 1, 3])))
    waits = [(a, b, rng.choice([0, rng.randint(0, 4)])) for a, b in some_pairs(rng, many, rng.randint(0, 5))]
    fixed = [(k, tasks[k][4] + rng.randint(0, 9)) for k in range(many) if rng.random() < 0.2]
    return book_of_tasks(tasks, machines, goods, waits, fixed)


def some_arcs(rng, book, count=4):
    """Arcs of a book; waits and arcs may go round."""
    many = len(book[2])
    return [tuple(rng.sample(range(many), 2)) for _ in range(rng.randint(0, count) if many > 1 else 0)]


def some_books(many, seed=11, most=6):
    rng = random.Random(seed)
    return [some_book(rng, most) for _ in range(many)]


def gaps_by_hand(book, arcs):
    """The gaps of all pairs that go right ahead, by the words of the document."""
    gaps = {}
    for a in range(len(book[2])):
        for b in range(len(book[2])):
            told = [gap for first, second, gap in book[3] if (first, second) == (a, b)]
            if told or (a, b) in arcs:
                gaps[(a, b)] = max(told + [0])
    return gaps


def ways_by_hand(book, arcs):
    """All ways of a net, gone through one by one; None with a ring."""
    gaps = gaps_by_hand(book, arcs)
    ways = [[k] for k in range(len(book[2]))]
    for way in ways:
        for a, b in gaps:
            if way[-1] == a:
                if b in way:
                    return None
                ways.append(way + [b])
    return ways


def begin_by_hand(book, number):
    return dict(book[4]).get(number, book[2][number][4])


def tail_by_hand(book, worth, number):
    """The own tail of a task, None where it does not count."""
    due, weight = book[2][number][5:]
    if worth == "span":
        return 0 if weight > 0 else None
    return None if due is None else -due


def length_by_hand(book, arcs, way):
    """All LENGTHs of a way and the gaps between."""
    gaps = gaps_by_hand(book, arcs)
    return sum(book[2][k][1] for k in way) + sum(gaps[pair] for pair in zip(way, way[1:]))


def parts_of(paper, path=()):
    """All parts of a paper with their paths, each ahead of its PAPERS."""
    parts = [(path, paper)]
    if paper[0] == "cases":
        for place, part in enumerate(paper[2]):
            parts.extend(parts_of(part, path + (place,)))
    return parts


def cases_in(paper):
    """How many parts of a paper are cases."""
    return sum(part[0] == "cases" for _, part in parts_of(paper))


def counts(book, worth):
    """Whether some task counts for a worth."""
    return any(tail_by_hand(book, worth, number) is not None for number in range(len(book[2])))


def fits_by_hand(book, plan, number, hour):
    """Whether a task, begun at the hour, has its machine and goods beside those of the plan."""
    row = book[2][number]
    for at in sorted({hour} | {begin for begin in plan.values() if hour < begin < hour + row[1]}):
        running = [k for k, begin in plan.items() if begin <= at < begin + book[2][k][1]]
        if row[2] != "" and any(book[2][k][2] == row[2] for k in running):
            return False
        for good, many in book[1]:
            if sum(dict(book[2][k][3]).get(good, 0) for k in running + [number]) > many:
                return False
    return True


def plan_by_hand(book, order):
    """The fixed ones placed, then the others in their order, each as early as can be; None where waits go against it."""
    plan = dict(book[4])
    for number in order:
        ahead = [(a, gap) for a, b, gap in book[3] if b == number]
        if any(a not in plan for a, _ in ahead):
            return None
        least = max([book[2][number][4]] + [plan[a] + book[2][a][1] + gap for a, gap in ahead])
        hours = [least] + sorted(plan[k] + book[2][k][1] for k in plan if plan[k] + book[2][k][1] > least)
        plan[number] = [hour for hour in hours if fits_by_hand(book, plan, number, hour)][0]
    return tuple(plan[number] for number in range(len(book[2])))


def is_good_by_hand(book, plan):
    """Whether a plan is good, by the words of the document."""
    tasks = book[2]
    if any(plan[k] < tasks[k][4] for k in range(len(tasks))) or any(plan[k] != begin for k, begin in book[4]):
        return False
    if any(plan[b] < plan[a] + tasks[a][1] + gap for a, b, gap in book[3]):
        return False
    return all(fits_by_hand(book, {k: plan[k] for k in range(len(tasks)) if k != number}, number, plan[number])
               for number in range(len(tasks)))


def worth_by_hand(book, plan, worth):
    """The span or the lateness of a plan."""
    tails = {number: tail_by_hand(book, worth, number) for number in range(len(book[2]))}
    return max(plan[k] + book[2][k][1] + tail for k, tail in tails.items() if tail is not None)


def best_by_hand(book, worth):
    """The least worth of all good plans, by all rows of tasks; None where there is no good plan."""
    free = [number for number in range(len(book[2])) if number not in dict(book[4])]
    plans = [plan_by_hand(book, order) for order in itertools.permutations(free)]
    return min([worth_by_hand(book, plan, worth) for plan in plans if plan is not None and is_good_by_hand(book, plan)],
               default=None)


def tight_book(rng, most=4, times=1):
    """A small book in which much is wanted at once; all hours are so many times as great."""
    many = rng.randint(2, most)
    machines = ("saw", "press")[:rng.randint(0, 2)]
    goods = (("oil", rng.randint(1, 5)), ("crew", rng.randint(1, 3)))[:rng.randint(0, 2)]
    tasks = []
    for k in range(many):
        needs = tuple((good, rng.randint(1, there)) for good, there in goods if rng.random() < 0.7)
        due = rng.choice([None, rng.randint(0, 20) * times, rng.randint(0, 20) * times])
        tasks.append(task(NAMES[k], rng.randint(1, 6) * times, rng.choice(("",) + machines * 3), needs,
                          rng.choice([0, 0, rng.randint(0, 9) * times]), due, rng.choice([0, 1, 3])))
    waits = [(a, b, rng.choice([0, rng.randint(0, 4)]) * times) for a, b in some_pairs(rng, many, rng.randint(0, 2))]
    fixed = [(k, tasks[k][4] + rng.randint(0, 9) * times) for k in range(many) if rng.random() < 0.15]
    return book_of_tasks(tasks, machines, goods, waits, fixed)


def tight_books(many, seed, most=4, times=1):
    rng = random.Random(seed)
    return [tight_book(rng, most, times) for _ in range(many)]
