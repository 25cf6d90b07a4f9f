"""Crowdings (point 75, its first part; the interface's crowdings.py)."""

import copy
import itertools
import random
import unittest

from boundsmith.crowdings import can_all, crowding_of
from boundsmith.lists import plan_by
from tests.samples import NAMES, book_of_tasks, plain_book, shop_book, some_books, task, within


def can_by_hand(book, tasks):
    """Whether tasks can all run in one hour, by the words of the document."""
    machines = [book[2][k][2] for k in tasks if book[2][k][2] != ""]
    if len(set(machines)) < len(machines):
        return False
    return all(sum(dict(book[2][k][3]).get(good, 0) for k in tasks) <= many for good, many in book[1])


def running_at(book, plan, hour):
    return [k for k, row in enumerate(book[2]) if plan[k] <= hour < plan[k] + row[1]]


def first_crowd_by_hand(book, plan):
    """The tasks that run at the first hour at which they can't; None without one."""
    for hour in range(max(plan) + 1000):
        running = running_at(book, plan, hour)
        if not can_by_hand(book, running):
            return running
    return None


def oil_book(needs, many, lengths=None, machines=None):
    tasks = [task(NAMES[k], lengths[k] if lengths else 4, machines[k] if machines else "", (("oil", need),) if need else ())
             for k, need in enumerate(needs)]
    return book_of_tasks(tasks, ("saw", "press"), (("oil", many),))


class CanAll(unittest.TestCase):
    def test_one_task_and_none(self):
        for book in (shop_book(), plain_book(3), oil_book((9, 9), 9)):
            self.assertIs(can_all(book, []), True)
            for number in range(len(book[2])):
                self.assertIs(can_all(book, [number]), True)

    def test_machines(self):
        book = oil_book((0,) * 5, 1, machines=("saw", "press", "saw", "", ""))
        self.assertIs(can_all(book, [0, 1]), True)
        self.assertIs(can_all(book, [0, 1, 3, 4]), True)
        self.assertIs(can_all(book, [3, 4]), True)
        self.assertIs(can_all(book, [0, 2]), False)
        self.assertIs(can_all(book, [2, 3, 1, 0]), False)

    def test_goods(self):
        book = oil_book((2, 2, 1, 0), 4)
        self.assertIs(can_all(book, [0, 1]), True)
        self.assertIs(can_all(book, [0, 1, 3]), True)
        self.assertIs(can_all(book, [1, 2, 3]), True)
        self.assertIs(can_all(book, [0, 1, 2]), False)
        self.assertIs(can_all(book, [3, 2, 1, 0]), False)
        self.assertIs(can_all(oil_book((99, 1), 99), [0, 1]), False)
        self.assertIs(can_all(oil_book((98, 1), 99), [0, 1]), True)

    def test_each_good_by_itself(self):
        tasks = [task("a", 1, "", (("oil", 2), ("glue", 1))), task("b", 1, "", (("oil", 1), ("glue", 2)))]
        for oil, glue, can in ((3, 3, True), (2, 3, False), (3, 2, False), (2, 2, False)):
            self.assertIs(can_all(book_of_tasks(tasks, (), (("oil", oil), ("glue", glue))), [0, 1]), can)

    def test_nothing_else_matters(self):
        tasks = [task("a", 5, start=0), task("b", 1, start=1000)]
        self.assertIs(can_all(book_of_tasks(tasks, waits=[(0, 1, 9)], fixed=[(0, 3), (1, 2000)]), [0, 1]), True)

    def test_what_is_handed_in_stays(self):
        book, tasks = shop_book(), [3, 1, 0]
        can_all(book, tasks)
        self.assertEqual((book, tasks), (shop_book(), [3, 1, 0]))

    def test_all_sets(self):
        for book in some_books(150, 1):
            for many in range(len(book[2]) + 1):
                for some in itertools.permutations(range(len(book[2])), min(many, 3)):
                    self.assertIs(can_all(book, list(some)), can_by_hand(book, some))


class CrowdingOf(unittest.TestCase):
    def test_two_of_one_machine(self):
        book = oil_book((0,) * 4, 1, machines=("saw", "press", "saw", ""))
        self.assertEqual(crowding_of(book, (0, 0, 3, 0)), [0, 2])
        self.assertIsNone(crowding_of(book, (0, 0, 4, 0)))
        self.assertEqual(crowding_of(book, (7, 0, 4, 0)), [0, 2])
        self.assertIsNone(crowding_of(book, (8, 0, 4, 0)))
        self.assertEqual(crowding_of(book, (5, 5, 5, 5)), [0, 2])

    def test_two_of_no_machine(self):
        self.assertIsNone(crowding_of(plain_book(30, length=5), (0,) * 30))

    def test_goods_that_lack_with_two(self):
        book = oil_book((1, 2, 2, 0), 3)
        self.assertEqual(crowding_of(book, (0, 0, 0, 0)), [1, 2])
        self.assertIsNone(crowding_of(book, (0, 0, 4, 0)))
        self.assertEqual(crowding_of(book, (0, 0, 3, 0)), [1, 2])

    def test_goods_that_lack_only_with_three(self):
        book = oil_book((1, 2, 1, 0), 3)
        self.assertEqual(crowding_of(book, (0, 0, 0, 0)), [0, 1, 2])
        self.assertIsNone(crowding_of(book, (0, 0, 4, 0)))
        self.assertEqual(crowding_of(book, (3, 0, 2, 1)), [0, 1, 2])

    def test_the_fewest(self):
        tasks = [task("a", 4, "", (("oil", 1),)), task("b", 4, "saw", (("oil", 1),)), task("c", 4, "", (("oil", 1),)),
                 task("d", 4, "saw", ())]
        book = book_of_tasks(tasks, ("saw",), (("oil", 2),))
        self.assertEqual(crowding_of(book, (0, 0, 0, 0)), [1, 3])
        self.assertEqual(crowding_of(book, (0, 0, 0, 4)), [0, 1, 2])
        tasks = [task(NAMES[k], 4, "", (("glue", 1), ("oil", need))) for k, need in enumerate((1, 3, 1, 3))]
        for goods in ((("glue", 3), ("oil", 5)), (("oil", 5), ("glue", 3))):
            self.assertEqual(crowding_of(book_of_tasks(tasks, (), goods), (0, 0, 0, 0)), [1, 3])

    def test_the_first_hour_not_a_later_one(self):
        book = oil_book((2, 2, 2, 3, 3), 6, lengths=(9, 9, 9, 9, 9))
        told = crowding_of(book, (0, 1, 2, 3, 4))
        self.assertEqual((len(told), told[2]), (3, 3))
        book = oil_book((1, 1, 1, 2, 2), 2, lengths=(4, 4, 4, 2, 2))
        self.assertEqual(crowding_of(book, (2, 0, 1, 50, 50)), [0, 1, 2])
        self.assertEqual(crowding_of(book, (72, 70, 71, 50, 51)), [3, 4])
        machines = ("saw", "saw", "press", "press")
        book = oil_book((0,) * 4, 1, machines=machines)
        self.assertEqual(crowding_of(book, (6, 3, 2, 0)), [2, 3])
        self.assertEqual(crowding_of(book, (6, 3, 8, 9)), [0, 1])

    def test_plans_that_keep_machines_and_goods(self):
        for book in some_books(200, 2):
            plan = plan_by(book, list(range(len(book[2]))))
            if plan is not None:
                self.assertIsNone(crowding_of(book, plan))

    def test_plans_that_are_not_good_otherwise(self):
        tasks = [task("a", 4, "saw", start=9), task("b", 4, "saw", start=9), task("c", 4, "", start=9)]
        book = book_of_tasks(tasks, ("saw",), waits=[(0, 1, 5), (1, 2, 0)], fixed=[(2, 20)])
        self.assertEqual(crowding_of(book, (0, 0, 0)), [0, 1])
        self.assertEqual(crowding_of(book, (3, 0, 0)), [0, 1])
        self.assertIsNone(crowding_of(book, (0, 4, 0)))
        self.assertIsNone(crowding_of(book, (4, 0, 0)))

    def test_greatest_hours(self):
        book = oil_book((1, 1), 1, lengths=(1000, 1000))
        last = 10 ** 9
        self.assertEqual(crowding_of(book, (last, last)), [0, 1])
        self.assertEqual(crowding_of(book, (last - 999, last)), [0, 1])
        self.assertIsNone(crowding_of(book, (last - 1000, last)))

    def test_by_hand(self):
        rng = random.Random(3)
        sizes = {}
        crowded = [oil_book([rng.randint(0, 2) for _ in range(7)], rng.randint(2, 5), machines=rng.choice(
            [[""] * 7, ["saw", "", "saw", "", "press", "", ""]])) for _ in range(100)]
        for book in some_books(400, 3) + crowded:
            plan = tuple(rng.randint(0, 9) for _ in book[2])
            before = copy.deepcopy((book, plan))
            told, running = crowding_of(book, plan), first_crowd_by_hand(book, plan)
            self.assertEqual((book, plan), before)
            self.assertEqual(crowding_of(book, plan), told)
            if running is None:
                self.assertIsNone(told)
                continue
            self.assertIs(type(told), list)
            self.assertEqual(told, sorted(told))
            self.assertLessEqual(set(told), set(running))
            self.assertFalse(can_by_hand(book, told))
            for many in range(len(told)):
                for some in itertools.combinations(running, many):
                    self.assertTrue(can_by_hand(book, some))
            sizes[len(told)] = sizes.get(len(told), 0) + 1
        self.assertGreater(min(sizes.get(2, 0), sizes.get(3, 0)), 10)

    def test_what_is_told_is_the_askers_own(self):
        book = oil_book((1, 2, 1, 0), 3)
        told = crowding_of(book, (0, 0, 0, 0))
        told.append(9)
        self.assertEqual(crowding_of(book, (0, 0, 0, 0)), [0, 1, 2])

    def test_thirty_tasks(self):
        rng = random.Random(4)
        book = oil_book([rng.randint(0, 3) for _ in range(30)], 9, machines=["saw"] * 10 + ["press"] * 10 + [""] * 10)
        with within(30):
            for _ in range(100):
                plan = tuple(rng.randint(0, 200) for _ in range(30))
                told = crowding_of(book, plan)
                self.assertIs(told is None, first_crowd_by_hand(book, plan) is None)


if __name__ == "__main__":
    unittest.main()
