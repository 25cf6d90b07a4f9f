"""Plans (points 20 and 21; the interface's plans.py)."""

import copy
import random
import unittest

from boundsmith.plans import fault_of, need_plan, worth_of
from tests.samples import (
    NAMES, book_of_tasks, deep, name_of_error, plain_book, shop_book, some_books, task, things, within)

ALL_WORTHS = ("span", "late", "count", "sum")
LAST = 10 ** 9


def runs(book, plan, number, hour):
    return plan[number] <= hour < plan[number] + book[2][number][1]


def fault_by_hand(book, plan):
    """The fault of a plan, gone through hour by hour."""
    many = range(len(book[2]))
    hours = range(max(plan[k] + book[2][k][1] for k in many))
    for k in many:
        if plan[k] < book[2][k][4]:
            return ("from", k)
    for k in many:
        if k in dict(book[4]) and plan[k] != dict(book[4])[k]:
            return ("fixed", k)
    for k, (a, b, gap) in enumerate(book[3]):
        if plan[b] < plan[a] + book[2][a][1] + gap:
            return ("wait", k)
    for i in many:
        for j in range(i + 1, len(book[2])):
            if book[2][i][2] == book[2][j][2] != "":
                if any(runs(book, plan, i, hour) and runs(book, plan, j, hour) for hour in hours):
                    return ("machine", i, j)
    for hour in hours:
        for g, (good, there) in enumerate(book[1]):
            if sum(dict(book[2][k][3]).get(good, 0) for k in many if runs(book, plan, k, hour)) > there:
                return ("good", g, hour)
    return None


def good_plan_of_shop():
    """A good plan for the shop: oil 3, crew 2; 0 goes ahead of 2 by 3, 1 ahead of 3."""
    return (0, 6, 7, 8)


class Needed(unittest.TestCase):
    def test_plans(self):
        book = plain_book(3)
        for plan in ((0, 0, 0), (0, LAST, 5), (LAST, LAST, LAST), (7, 1000001, 2)):
            self.assertIsNone(need_plan(book, plan))
        self.assertIsNone(need_plan(plain_book(1), (0,)))
        self.assertIsNone(need_plan(plain_book(30), (LAST,) * 30))

    def no_plans(self):
        kinds = [(0, 0), (0, 0, 0, 0), (), [0, 0, 0], (0, 0, -1), (-1, 0, 0), (0, LAST + 1, 0), (0, 0, 10 ** 999),
                 (True, 0, 0), (0, 0, False), (0, None, 0), (0, "0", 0), ((0,), 0, 0), (0, [0], 0), ([], [], []),
                 {0: 0, 1: 0, 2: 0}, "000", ("0", "0", "0"), (deep("list", 150), 0, 0), (0, {}, 0), [(0, 0, 0)]]
        return kinds + things()

    def test_what_is_none(self):
        for thing in self.no_plans():
            with self.subTest(thing=str(thing)[:50]):
                self.assertEqual(name_of_error(need_plan, plain_book(3), thing), "BadPlan")
                self.assertEqual(name_of_error(fault_of, plain_book(3), thing), "BadPlan")
                for worth in ALL_WORTHS + ("", None, [], "Span"):
                    self.assertEqual(name_of_error(worth_of, plain_book(3), thing, worth), "BadPlan")

    def test_a_plan_that_is_not_good_is_a_plan(self):
        book = shop_book()
        self.assertIsNone(need_plan(book, (0, 0, 0, 0)))
        self.assertEqual(worth_of(book, (0, 0, 0, 0), "span"), 4)

    def test_nothing_is_changed(self):
        for thing in ((0, [1], 2), [0, 1, 2], (0, {1: [2]}, 3)):
            before = copy.deepcopy(thing)
            name_of_error(need_plan, plain_book(3), thing)
            name_of_error(fault_of, plain_book(3), thing)
            name_of_error(worth_of, plain_book(3), thing, "span")
            self.assertEqual(thing, before)


class Faults(unittest.TestCase):
    def test_a_good_plan_has_none(self):
        self.assertIsNone(fault_of(shop_book(), good_plan_of_shop()))
        self.assertIsNone(fault_of(plain_book(3), (0, 0, 0)))
        self.assertIsNone(fault_of(plain_book(3), (LAST, 0, LAST)))

    def test_from(self):
        book = book_of_tasks([task("a"), task("b", start=5), task("c", start=1000000)])
        self.assertIsNone(fault_of(book, (0, 5, 1000000)))
        self.assertEqual(fault_of(book, (0, 4, 1000000)), ("from", 1))
        self.assertEqual(fault_of(book, (0, 5, 999999)), ("from", 2))
        self.assertEqual(fault_of(book, (0, 4, 0)), ("from", 1))

    def test_fixed(self):
        book = plain_book(4, (), [(2, 6), (1, 3)])
        self.assertIsNone(fault_of(book, (9, 3, 6, 0)))
        for begin in (5, 7, 0, LAST):
            self.assertEqual(fault_of(book, (9, 3, begin, 0)), ("fixed", 2))
        for begin in (2, 4):
            self.assertEqual(fault_of(book, (9, begin, 6, 0)), ("fixed", 1))
            self.assertEqual(fault_of(book, (9, begin, 8, 0)), ("fixed", 1))

    def test_waits(self):
        book = book_of_tasks([task("a", 4), task("b", 2), task("c", 3)], waits=[(2, 0, 0), (0, 1, 3), (0, 1, 5)])
        self.assertIsNone(fault_of(book, (3, 12, 0)))
        self.assertEqual(fault_of(book, (3, 11, 0)), ("wait", 2))
        self.assertEqual(fault_of(book, (3, 10, 0)), ("wait", 2))
        self.assertEqual(fault_of(book, (3, 9, 0)), ("wait", 1))
        self.assertEqual(fault_of(book, (2, 12, 0)), ("wait", 0))
        self.assertEqual(fault_of(book, (2, 0, 0)), ("wait", 0))

    def test_machines(self):
        tasks = [task("a", 4, "saw"), task("b", 2, "press"), task("c", 3, "saw"), task("d", 1, "saw"), task("e", 9)]
        book = book_of_tasks(tasks, ("saw", "press"))
        self.assertIsNone(fault_of(book, (3, 0, 0, 7, 0)))
        self.assertIsNone(fault_of(book, (0, 0, 4, 7, 0)))
        self.assertEqual(fault_of(book, (2, 0, 0, 7, 0)), ("machine", 0, 2))
        self.assertEqual(fault_of(book, (0, 0, 3, 7, 0)), ("machine", 0, 2))
        self.assertEqual(fault_of(book, (0, 0, 4, 6, 0)), ("machine", 2, 3))
        self.assertEqual(fault_of(book, (0, 0, 4, 3, 0)), ("machine", 0, 3))
        self.assertEqual(fault_of(book, (0, 0, 0, 0, 0)), ("machine", 0, 2))
        self.assertEqual(fault_of(book, (0, 0, 8, 8, 0)), ("machine", 2, 3))
        self.assertIsNone(fault_of(book, (LAST - 4, 0, LAST, LAST - 5, 0)))
        self.assertEqual(fault_of(book, (LAST, 0, LAST, 0, 0)), ("machine", 0, 2))

    def test_the_least_pair_is_by_the_first_one(self):
        tasks = [task("a", 4, "saw"), task("b", 2, "press"), task("c", 3, "press"), task("d", 1, "saw")]
        book = book_of_tasks(tasks, ("press", "saw"))
        self.assertEqual(fault_of(book, (0, 0, 0, 0)), ("machine", 0, 3))
        self.assertEqual(fault_of(book, (0, 0, 0, 4)), ("machine", 1, 2))

    def test_tasks_of_no_machine_may_run_at_once(self):
        self.assertIsNone(fault_of(plain_book(30), (0,) * 30))

    def test_goods(self):
        tasks = [task("a", 4, needs=(("oil", 2),)), task("b", 2, needs=(("oil", 1), ("crew", 1))),
                 task("c", 3, needs=(("crew", 2),))]
        book = book_of_tasks(tasks, goods=(("oil", 2), ("crew", 2)))
        self.assertIsNone(fault_of(book, (0, 4, 0)))
        self.assertIsNone(fault_of(book, (2, 0, 2)))
        self.assertEqual(fault_of(book, (0, 3, 0)), ("good", 0, 3))
        self.assertEqual(fault_of(book, (1, 0, 2)), ("good", 0, 1))
        self.assertEqual(fault_of(book, (9, 0, 1)), ("good", 1, 1))
        self.assertEqual(fault_of(book, (9, 3, 1)), ("good", 1, 3))
        self.assertEqual(fault_of(book, (0, 0, 0)), ("good", 0, 0))
        self.assertEqual(fault_of(book, (LAST, 0, LAST)), None)
        self.assertEqual(fault_of(book, (LAST, LAST - 1, 0)), ("good", 0, LAST))

    def test_the_first_hour_ahead_of_the_first_good(self):
        tasks = [task("a", 4, needs=(("oil", 2),)), task("b", 2, needs=(("oil", 1), ("crew", 1))),
                 task("c", 3, needs=(("crew", 2),))]
        book = book_of_tasks(tasks, goods=(("oil", 2), ("crew", 2)))
        self.assertEqual(fault_of(book, (6, 5, 3)), ("good", 1, 5))
        self.assertEqual(fault_of(book, (5, 5, 3)), ("good", 0, 5))

    def test_a_good_that_lacks_in_one_hour_only(self):
        tasks = [task(NAMES[k], 5, needs=(("oil", 1),)) for k in range(4)]
        book = book_of_tasks(tasks, goods=(("crew", 9), ("oil", 3)))
        self.assertIsNone(fault_of(book, (0, 2, 4, 5)))
        self.assertEqual(fault_of(book, (0, 2, 4, 4)), ("good", 1, 4))
        self.assertEqual(fault_of(book, (4, 4, 2, 0)), ("good", 1, 4))

    def test_what_is_given_back_is_there_at_that_hour(self):
        tasks = [task("a", 4, needs=(("oil", 99),)), task("b", 1, needs=(("oil", 99),))]
        book = book_of_tasks(tasks, goods=(("oil", 99),))
        self.assertIsNone(fault_of(book, (0, 4)))
        self.assertIsNone(fault_of(book, (1, 0)))
        self.assertEqual(fault_of(book, (0, 3)), ("good", 0, 3))
        self.assertEqual(fault_of(book, (0, 0)), ("good", 0, 0))

    def test_far_hours_take_no_time(self):
        tasks = [task(NAMES[k], 1000, needs=(("oil", 9),)) for k in range(30)]
        book = book_of_tasks(tasks, goods=(("oil", 17),))
        with within(60):
            self.assertIsNone(fault_of(book, tuple(LAST - 1000 * k for k in range(30))))
            late = [LAST - 1000 * k + 1 for k in range(1, 30)]
            self.assertEqual(fault_of(book, tuple([LAST] + late)), ("good", 0, LAST))
            self.assertEqual(fault_of(book, tuple(late + [LAST])), ("good", 0, LAST))

    def test_by_hand(self):
        rng = random.Random(31)
        kinds = {}
        for book in some_books(600, 31, 5):
            for _ in range(4):
                begins = dict(book[4])
                plan = tuple(begins.get(k, row[4] + rng.randint(0, 12)) if rng.random() < 0.95 else rng.randint(0, 9)
                             for k, row in enumerate(book[2]))
                expected = fault_by_hand(book, plan)
                self.assertEqual(fault_of(book, plan), expected)
                self.assertEqual(fault_of(book, plan), expected)
                kind = None if expected is None else expected[0]
                kinds[kind] = kinds.get(kind, 0) + 1
        for kind in (None, "from", "fixed", "wait", "machine", "good"):
            self.assertGreater(kinds.get(kind, 0), 20, kind)


class FirstFault(unittest.TestCase):
    """A book with one way to each fault: its tasks come in twos, so that each two faults can be had at once."""

    def book(self):
        tasks = [task("good", 2, needs=(("oil", 1),)), task("goodb", 2, needs=(("oil", 1),)),
                 task("mach", 2, "saw"), task("machb", 2, "saw"), task("wait", 2), task("waitb", 2),
                 task("fix", 2), task("start", 2, start=3)]
        return book_of_tasks(tasks, ("saw",), (("oil", 1),), ((4, 5, 0),), ((6, 9),))

    spoils = (
        (("from", 7), {7: 2}),
        (("fixed", 6), {6: 8}),
        (("wait", 0), {5: 1}),
        (("machine", 2, 3), {3: 1}),
        (("good", 0, 1), {1: 1}),
    )

    def plan(self, *changes):
        plan = [0, 2, 0, 2, 0, 2, 9, 3]
        for change in changes:
            for number, hour in change.items():
                plan[number] = hour
        return tuple(plan)

    def test_none(self):
        self.assertIsNone(fault_of(self.book(), self.plan()))

    def test_each_by_itself(self):
        for fault, change in self.spoils:
            self.assertEqual(fault_of(self.book(), self.plan(change)), fault)

    def test_of_two_the_first_one_is_told(self):
        for at, (fault, change) in enumerate(self.spoils):
            for _, other in self.spoils[at + 1:]:
                self.assertEqual(fault_of(self.book(), self.plan(change, other)), fault)

    def test_of_all_the_first_one_is_told(self):
        for at, (fault, _) in enumerate(self.spoils):
            changes = [change for _, change in self.spoils[at:]]
            self.assertEqual(fault_of(self.book(), self.plan(*changes)), fault)


class Worths(unittest.TestCase):
    def test_span(self):
        book = book_of_tasks([task("a", 4, weight=1), task("b", 9, weight=0), task("c", 2, weight=1000)])
        self.assertEqual(worth_of(book, (0, 0, 0), "span"), 4)
        self.assertEqual(worth_of(book, (0, 50, 3), "span"), 5)
        self.assertEqual(worth_of(book, (LAST, 0, 0), "span"), LAST + 4)

    def test_late(self):
        book = book_of_tasks([task("a", 4, due=10), task("b", 9, due=None), task("c", 2, due=0, weight=0)])
        self.assertEqual(worth_of(book, (0, 0, 0), "late"), 2)
        self.assertEqual(worth_of(book, (9, 70, 0), "late"), 3)
        self.assertEqual(worth_of(book, (0, 0, LAST), "late"), LAST + 2)
        early = book_of_tasks([task("a", 4, due=10), task("b", 1, due=50)])
        self.assertEqual(worth_of(early, (0, 0), "late"), -6)
        self.assertEqual(worth_of(early, (6, 0), "late"), 0)
        self.assertEqual(worth_of(early, (6, 60), "late"), 11)

    def test_count(self):
        book = book_of_tasks([task("a", 4, due=10), task("b", 9, due=None), task("c", 2, due=0), task("d", due=7, weight=0)])
        self.assertEqual(worth_of(book, (6, 99, 0, 6), "count"), 1)
        self.assertEqual(worth_of(book, (7, 99, 0, 6), "count"), 2)
        self.assertEqual(worth_of(book, (7, 99, 0, 7), "count"), 3)
        self.assertEqual(worth_of(book_of_tasks([task("a", 4, due=4)]), (0,), "count"), 0)

    def test_sum(self):
        book = book_of_tasks([task("a", 4, weight=3), task("b", 9, weight=0), task("c", 2, weight=1000, due=1)])
        self.assertEqual(worth_of(book, (0, 0, 0), "sum"), 12 + 2000)
        self.assertEqual(worth_of(book, (5, 77, 1), "sum"), 27 + 3000)
        self.assertEqual(worth_of(book, (0, 0, LAST), "sum"), 12 + 1000 * (LAST + 2))

    def test_where_no_task_counts(self):
        book = plain_book(3, weight=0)
        self.assertEqual([worth_of(book, (1, 2, 3), worth) for worth in ALL_WORTHS], [None, None, 0, 0])
        self.assertEqual([worth_of(plain_book(2), (1, 2), worth) for worth in ALL_WORTHS], [3, None, 0, 5])

    def test_of_a_plan_that_is_not_good(self):
        told = [worth_of(shop_book(), (0, 0, 0, 5), worth) for worth in ALL_WORTHS]
        self.assertEqual(told, [6, 6, 1, 20 + 0 + 21 + 6])

    def test_of_a_good_plan(self):
        self.assertEqual([worth_of(shop_book(), good_plan_of_shop(), worth) for worth in ALL_WORTHS],
                         [10, 9, 1, 20 + 0 + 70 + 9])

    def test_bad_worths(self):
        for worth in things() + ["Span", "span ", "", "lates", "summe", "counts", ["span"], ("sum",), {"sum": 1}]:
            self.assertEqual(name_of_error(worth_of, plain_book(2), (0, 0), worth), "BadWorth", str(worth)[:50])
            self.assertEqual(name_of_error(worth_of, plain_book(2), (0,), worth), "BadPlan", str(worth)[:50])

    def test_by_hand(self):
        rng = random.Random(33)
        for book in some_books(200, 33):
            plan = tuple(rng.randint(0, 15) for _ in book[2])
            ends = [plan[k] + row[1] for k, row in enumerate(book[2])]
            rows = list(zip(ends, book[2]))
            span = max([end for end, row in rows if row[6] > 0], default=None)
            late = max([end - row[5] for end, row in rows if row[5] is not None], default=None)
            count = sum(row[5] is not None and end > row[5] for end, row in rows)
            whole = sum(end * row[6] for end, row in rows)
            self.assertEqual([worth_of(book, plan, worth) for worth in ALL_WORTHS], [span, late, count, whole])


if __name__ == "__main__":
    unittest.main()
