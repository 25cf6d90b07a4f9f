"""Bounds of ways and crowds (points 13 and 25; the interface's bounds.py)."""

import copy
import itertools
import random
import unittest

from boundsmith.bounds import best_crowd, crowd_bound, way_bound
from boundsmith.nets import heads, longest, tails
from tests.samples import (
    NAMES, begin_by_hand, book_of_tasks, gaps_by_hand, length_by_hand, name_of_error, plain_book, some_arcs,
    some_books, tail_by_hand, task, things, within)

WORTHS = ("span", "late")


def way_book():
    """Five tasks: 0, 1, 2 and 3 one behind the other, 4 by itself."""
    tasks = [task("a", 4, start=1, due=3), task("b", 2, start=50), task("c", 3, weight=0, due=30),
             task("d", 1, weight=2), task("e", 7, start=5, weight=0)]
    return book_of_tasks(tasks, waits=[(0, 1, 3), (1, 2, 0), (1, 2, 6), (2, 3, 1)], fixed=[(2, 100)])


def saw_book(weights=(1, 1, 1, 1), dues=(None, 40, 30, 20)):
    """Four tasks of a saw, two of a press, one of no machine."""
    tasks = [task(NAMES[k], k + 2, "saw", (), 3 * k, dues[k], weights[k]) for k in range(4)]
    tasks += [task("pa", 5, "press", (), 2, 9, 1), task("pb", 6, "press", (), 0, None, 0), task("no", 9)]
    return book_of_tasks(tasks, ("saw", "press", "idle"), waits=[(0, 4, 2), (3, 6, 1)])


def way_by_hand(book, arcs, worth, way):
    tail = tail_by_hand(book, worth, way[-1])
    return None if tail is None else begin_by_hand(book, way[0]) + length_by_hand(book, arcs, way) + tail


def crowd_by_hand(book, arcs, worth, crowd):
    starts, rests = heads(book, arcs), tails(book, arcs, worth)
    if starts is None or None in [rests[k] for k in crowd]:
        return None
    return min(starts[k] for k in crowd) + sum(book[2][k][1] for k in crowd) + min(rests[k] for k in crowd)


def crowds_by_hand(book, machine):
    """All crowds of a machine."""
    mine = [k for k, row in enumerate(book[2]) if row[2] == machine]
    return [list(crowd) for many in range(1, len(mine) + 1) for crowd in itertools.combinations(mine, many)]


class Refused(unittest.TestCase):
    ring = [(0, 1), (1, 0)]

    def calls(self, arcs, worth, machine="saw"):
        book = saw_book()
        return [name_of_error(way_bound, book, arcs, worth, [0]), name_of_error(crowd_bound, book, arcs, worth, [0]),
                name_of_error(best_crowd, book, arcs, worth, machine)]

    def test_arcs_first(self):
        for arcs in (None, (), [(0, 0)], [(0, 7)], [(0, 1)] * 901, [[0, 1]], [(True, 0)], {}, "", ((0, 1),)):
            for worth in ("span", "sum", None):
                for machine in ("saw", "drill"):
                    self.assertEqual(self.calls(arcs, worth, machine), ["BadArcs"] * 3)

    def test_then_worths(self):
        for arcs in ([], self.ring):
            for worth in things() + ["sum", "count", ["span"], ("late",)]:
                for machine in ("saw", "drill"):
                    self.assertEqual(self.calls(arcs, worth, machine), ["BadWorth"] * 3)
                for way in (None, [9], []):
                    self.assertEqual(name_of_error(way_bound, saw_book(), arcs, worth, way), "BadWorth")
                    self.assertEqual(name_of_error(crowd_bound, saw_book(), arcs, worth, way), "BadWorth")

    def test_then_what_is_no_machine(self):
        kinds = things() + ["drill", "Saw", "saw ", ["saw"], ("saw",), {"saw": 1}, NAMES[0], "sa"]
        for arcs in ([], self.ring):
            for machine in kinds:
                for worth in WORTHS:
                    told = name_of_error(best_crowd, saw_book(), arcs, worth, machine)
                    self.assertEqual(told, "BadTasks", str(machine)[:50])

    def test_no_task_counts_and_no_machine(self):
        book = saw_book((0, 0, 0, 0), (None, None, None, None))
        self.assertEqual(name_of_error(best_crowd, book, [], "span", "drill"), "BadTasks")

    def test_a_goods_name_is_no_machine(self):
        book = book_of_tasks([task("a", 1, "saw")], ["saw"], [("oil", 1)])
        self.assertEqual(name_of_error(best_crowd, book, [], "span", "oil"), "BadTasks")

    def test_nothing_is_refused_else(self):
        self.assertEqual(self.calls([], "span"), [None] * 3)
        self.assertEqual(self.calls(self.ring, "late"), [None] * 3)


class Own(unittest.TestCase):
    def test_what_is_handed_in_stays(self):
        book, arcs, way, crowd = saw_book(), [(0, 1), (2, 3), (0, 1)], [0, 1], [3, 1, 2]
        before = copy.deepcopy((book, arcs, way, crowd))
        for worth in WORTHS:
            way_bound(book, arcs, worth, way)
            crowd_bound(book, arcs, worth, crowd)
            best_crowd(book, arcs, worth, "saw")
        self.assertEqual((book, arcs, way, crowd), before)

    def test_what_is_told_is_the_askers_own(self):
        book = saw_book()
        told = best_crowd(book, [], "span", "saw")
        again = copy.deepcopy(told)
        told[1].append(5)
        self.assertEqual(best_crowd(book, [], "span", "saw"), again)


class Ways(unittest.TestCase):
    def test_of_one_task(self):
        book = way_book()
        self.assertEqual([way_bound(book, [], "span", [k]) for k in range(5)], [5, 52, None, 1, None])
        self.assertEqual([way_bound(book, [], "late", [k]) for k in range(5)], [2, None, 73, None, None])

    def test_of_several(self):
        book = way_book()
        self.assertEqual(way_bound(book, [], "span", [0, 1]), 1 + 4 + 3 + 2)
        self.assertEqual(way_bound(book, [], "late", [0, 1, 2]), 1 + 4 + 3 + 2 + 6 + 3 - 30)
        self.assertEqual(way_bound(book, [], "span", [0, 1, 2, 3]), 1 + 4 + 3 + 2 + 6 + 3 + 1 + 1)
        self.assertEqual(way_bound(book, [], "span", [1, 2, 3]), 50 + 2 + 6 + 3 + 1 + 1)
        self.assertEqual(way_bound(book, [], "span", [2, 3]), 100 + 3 + 1 + 1)

    def test_the_last_one_does_not_count(self):
        book = way_book()
        for way, worth in (([0, 1, 2], "span"), ([2], "span"), ([0, 1], "late"), ([0, 1, 2, 3], "late"), ([4], "late")):
            self.assertIsNone(way_bound(book, [], worth, way))

    def test_by_arcs(self):
        book = way_book()
        self.assertEqual(way_bound(book, [(4, 0)], "span", [4, 0, 1]), 5 + 7 + 4 + 3 + 2)
        self.assertIsNone(way_bound(book, [], "span", [4, 0, 1]))
        self.assertEqual(way_bound(book, [(0, 3), (0, 1)], "span", [0, 3]), 1 + 4 + 1)
        self.assertEqual(way_bound(book, [(0, 1)], "span", [0, 1]), 10)

    def test_of_thirty(self):
        book = plain_book(30, [(k, k + 1, 2) for k in range(29)], length=3)
        self.assertEqual(way_bound(book, [], "span", list(range(30))), 90 + 58)
        self.assertEqual(way_bound(plain_book(30), [(k + 1, k) for k in range(29)], "span", list(range(30))[::-1]), 30)
        self.assertIsNone(way_bound(book, [], "span", list(range(30)) + [0]))

    def test_what_is_no_way(self):
        book = way_book()
        ways = [[], [1, 0], [0, 2], [0, 3], [0, 1, 3], [0, 0], [0, 1, 1], [3, 4], [5], [0, 1, 5], [-1], [0, -1], [4, 3],
                [False, 1], [False], [0, True], ["0"], [0, None], [[0], 1], [0, [1]], (0,), (0, 1), "01",
                {0: 1}, {3: 0}, 3, None, [1000000], [10 ** 999, 0], [3, 10 ** 999], [(2, 3)], [0, 1, 2, 3, 0]]
        for way in ways + things():
            for worth in WORTHS:
                self.assertIsNone(way_bound(book, [], worth, way), str(way)[:50])

    def test_with_a_ring(self):
        book = way_book()
        for arcs in ([(3, 0)], [(4, 3), (3, 4)]):
            for way in ([0], [0, 1], [2, 3], [4, 3], [9], None):
                for worth in WORTHS:
                    self.assertIsNone(way_bound(book, arcs, worth, way))

    def test_by_hand(self):
        rng = random.Random(21)
        told = 0
        for book in some_books(150, 21, 5):
            arcs = some_arcs(rng, book, 2)
            gaps = gaps_by_hand(book, arcs)
            ring = heads(book, arcs) is None
            for many in (1, 2, 3):
                for row in itertools.product(range(len(book[2])), repeat=many):
                    fits = not ring and all(pair in gaps for pair in zip(row, row[1:]))
                    for worth in WORTHS:
                        expected = way_by_hand(book, arcs, worth, list(row)) if fits else None
                        self.assertEqual(way_bound(book, arcs, worth, list(row)), expected)
                        told += expected is not None
                        if expected is not None:
                            self.assertLessEqual(expected, longest(book, arcs, worth)[0])
        self.assertGreater(told, 500)


class Crowds(unittest.TestCase):
    def test_of_one_task(self):
        book = saw_book()
        self.assertEqual([crowd_bound(book, [], "span", [k]) for k in range(6)], [9, 6, 10, 24, 9, None])
        self.assertEqual([crowd_bound(book, [], "late", [k]) for k in range(6)], [0, -34, -20, -6, 0, None])

    def test_of_several(self):
        book = saw_book()
        self.assertEqual(crowd_bound(book, [], "span", [0, 1, 2, 3]), 0 + 14 + 0)
        self.assertEqual(crowd_bound(book, [], "span", [1, 2, 3]), 3 + 12)
        self.assertEqual(crowd_bound(book, [], "span", [0, 3]), 7 + 7)
        self.assertEqual(crowd_bound(book, [], "late", [1, 3]), 3 + 8 - 40)
        self.assertEqual(crowd_bound(book, [], "late", [3, 2]), 6 + 9 - 30)

    def test_in_any_order(self):
        book = saw_book()
        for crowd in itertools.permutations([0, 1, 3]):
            self.assertEqual(crowd_bound(book, [], "span", list(crowd)), 10)

    def test_by_arcs(self):
        book = saw_book()
        self.assertEqual(crowd_bound(book, [(6, 1)], "span", [1, 2]), 6 + 7)
        self.assertEqual(crowd_bound(book, [(6, 1), (2, 4)], "span", [2]), 6 + 4 + 5)
        self.assertEqual(crowd_bound(book, [(6, 1), (2, 4)], "span", [0, 2]), 6 + 5)

    def test_one_without_a_tail(self):
        book = saw_book((1, 1, 0, 1), (None, None, 5, 6))
        self.assertEqual(crowd_bound(book, [], "span", [0, 1, 3]), 10)
        for crowd in ([2], [0, 2], [0, 1, 2, 3]):
            self.assertIsNone(crowd_bound(book, [], "span", crowd))
        for crowd in ([1], [1, 2], [0, 1, 2, 3]):
            self.assertIsNone(crowd_bound(book, [], "late", crowd))
        self.assertIsNone(crowd_bound(book, [], "span", [4, 5]))

    def test_one_that_has_its_tail_by_another_one(self):
        book = saw_book((0, 0, 0, 0))
        self.assertEqual(crowd_bound(book, [], "span", [0, 3]), 0 + 7 + 7)
        self.assertIsNone(crowd_bound(book, [], "span", [0, 1]))

    def test_of_thirty(self):
        tasks = [task(NAMES[k], k + 1, "saw", (), 5) for k in range(30)]
        book = book_of_tasks(tasks, ("saw",))
        self.assertEqual(crowd_bound(book, [], "span", list(range(30))), 5 + 465)
        self.assertEqual(crowd_bound(book, [], "span", list(range(30))[::-1]), 5 + 465)
        self.assertIsNone(crowd_bound(book, [], "span", list(range(30)) + [29]))
        with within(60):
            self.assertEqual(best_crowd(book, [], "span", "saw"), (470, list(range(30))))

    def test_what_is_no_crowd(self):
        book = saw_book()
        crowds = [[], [0, 0], [0, 1, 0], [0, 4], [4, 0], [6], [6, 0], [0, 6], [7], [0, 7], [-1], [0, -1], [True], [0, True],
                  [False, 1], ["0"], [None], [0, None], [[0]], [0, [1]], (0,), (0, 1), "01", {0: 1}, 0, None,
                  [1000000], [10 ** 999], [(0, 1)]]
        for crowd in crowds + things():
            for worth in WORTHS:
                self.assertIsNone(crowd_bound(book, [], worth, crowd), str(crowd)[:50])

    def test_two_tasks_of_no_machine_are_no_crowd(self):
        for worth in WORTHS:
            self.assertIsNone(crowd_bound(plain_book(3), [], worth, [0, 1]))
            self.assertIsNone(crowd_bound(plain_book(3), [], worth, [0]))

    def test_with_a_ring(self):
        book = saw_book()
        for arcs in ([(0, 1), (1, 0)], [(6, 3)]):
            for crowd in ([0], [1, 2], [9], None):
                for worth in WORTHS:
                    self.assertIsNone(crowd_bound(book, arcs, worth, crowd))

    def test_by_hand(self):
        rng = random.Random(22)
        for book in some_books(150, 22):
            arcs = some_arcs(rng, book, 2)
            for machine in book[0]:
                for crowd in crowds_by_hand(book, machine):
                    for worth in WORTHS:
                        told = crowd_bound(book, arcs, worth, crowd)
                        self.assertEqual(told, crowd_by_hand(book, arcs, worth, crowd))


class BestCrowd(unittest.TestCase):
    def test_the_shop(self):
        book = saw_book()
        self.assertEqual(best_crowd(book, [], "span", "saw"), (24, [3]))
        self.assertEqual(best_crowd(book, [], "span", "press"), (9, [4]))

    def test_of_a_machine_without_tasks(self):
        for worth in WORTHS:
            self.assertIsNone(best_crowd(saw_book(), [], worth, "idle"))

    def test_no_task_with_a_tail(self):
        book = saw_book((0, 0, 0, 0), (None, None, None, None))
        self.assertEqual(best_crowd(book, [], "span", "saw"), (24, [3]))
        book = put_weight(book, 6, 0)
        self.assertEqual(best_crowd(book, [], "span", "saw"), (9, [0]))
        book = put_weight(book, 4, 0)
        self.assertIsNone(best_crowd(book, [], "span", "saw"))
        self.assertIsNone(best_crowd(book, [], "span", "press"))

    def test_those_without_a_tail_are_left_out(self):
        tasks = [task("a", 5, "saw", due=9), task("b", 100, "saw"), task("c", 4, "saw", due=9)]
        book = book_of_tasks(tasks, ("saw",))
        self.assertEqual(best_crowd(book, [], "late", "saw"), (0, [0, 2]))

    def test_with_a_ring(self):
        for machine in ("saw", "press", "idle"):
            for worth in WORTHS:
                self.assertIsNone(best_crowd(saw_book(), [(0, 1), (1, 0)], worth, machine))

    def test_by_all_crowds(self):
        rng = random.Random(23)
        several = 0
        for book in some_books(400, 23, 8):
            arcs = some_arcs(rng, book, 2)
            for machine in book[0]:
                for worth in WORTHS:
                    bounds = [crowd_by_hand(book, arcs, worth, crowd) for crowd in crowds_by_hand(book, machine)]
                    bounds = [bound for bound in bounds if bound is not None]
                    told = best_crowd(book, arcs, worth, machine)
                    if not bounds:
                        self.assertIsNone(told)
                        continue
                    self.assertIs(type(told), tuple)
                    self.assertEqual(len(told), 2)
                    self.assertEqual(told[0], max(bounds))
                    self.assertIs(type(told[1]), list)
                    self.assertEqual(told[1], sorted(told[1]))
                    self.assertEqual({book[2][k][2] for k in told[1]}, {machine})
                    self.assertEqual(crowd_bound(book, arcs, worth, told[1]), told[0])
                    self.assertEqual(best_crowd(book, arcs, worth, machine), told)
                    several += len(told[1]) > 1
        self.assertGreater(several, 50)

    def test_thirty_tasks(self):
        rng = random.Random(24)
        tasks = [task(NAMES[k], rng.randint(1, 9), "saw", (), rng.randint(0, 90), rng.randint(0, 90)) for k in range(30)]
        book = book_of_tasks(tasks, ("saw",))
        arcs = [(k, k + 5) for k in range(0, 25, 3)]
        with within(60):
            bound, crowd = best_crowd(book, arcs, "late", "saw")
        self.assertEqual(crowd_bound(book, arcs, "late", crowd), bound)
        for crowd in [list(range(30))] + [sorted(rng.sample(range(30), rng.randint(1, 30))) for _ in range(500)]:
            self.assertLessEqual(crowd_bound(book, arcs, "late", crowd), bound)


def put_weight(book, number, weight):
    tasks = [row[:6] + (weight,) if k == number else row for k, row in enumerate(book[2])]
    return book[:2] + (tuple(tasks),) + book[3:]


if __name__ == "__main__":
    unittest.main()
