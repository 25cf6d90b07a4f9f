"""Plans by lists (point 22; the interface's lists.py)."""

import copy
import itertools
import random
import unittest

from boundsmith.lists import plan_by
from boundsmith.plans import fault_of
from tests.samples import (
    NAMES, book_of_tasks, deep, name_of_error, plain_book, shop_book, some_books, some_pairs, task, things, within)


def fits(book, begins, number, hour):
    """Whether a task can be placed at an hour beside others, looked at hour by hour."""
    _, length, machine, needs, _, _, _ = book[2][number]
    for now in range(hour, hour + length):
        running = [k for k in begins if begins[k] <= now < begins[k] + book[2][k][1]]
        if machine != "" and any(book[2][k][2] == machine for k in running):
            return False
        for good, many in needs:
            if sum(dict(book[2][k][3]).get(good, 0) for k in running) + many > dict(book[1])[good]:
                return False
    return True


def plan_by_hand(book, row):
    """The plan that a row makes, by the words of the document."""
    begins = dict(book[4])
    while len(begins) < len(row):
        for number in row:
            ahead = [(a, gap) for a, b, gap in book[3] if b == number]
            if number not in begins and all(a in begins for a, _ in ahead):
                hour = max([book[2][number][4]] + [begins[a] + book[2][a][1] + gap for a, gap in ahead])
                while not fits(book, begins, number, hour):
                    hour += 1
                begins[number] = hour
                break
    plan = tuple(begins[k] for k in range(len(row)))
    return plan if fault_of(book, plan) is None else None


class Refused(unittest.TestCase):
    def test_what_is_no_list_of_all_tasks(self):
        rows = [[0, 1], [0, 1, 2, 3], [0, 1, 2, 2], [0, 1, 1], [0, 0, 0], [1, 2, 3], [0, 1, 3], [-1, 0, 1], [0, -1, 1],
                [], [0, True, 2], [False, 1, 2], [0, 1, None], ["0", "1", "2"], [0, 1, "2"], [[0], [1], [2]], [0, [1], 2],
                (0, 1, 2), "012", {0: 0, 1: 1, 2: 2}, None, 3, [10 ** 999, 0, 1], [(0, 1, 2)], [deep("list", 149), 1, 2],
                [0, {}, 2], [0, (), 2]]
        for row in rows + things():
            self.assertEqual(name_of_error(plan_by, plain_book(3), row), "BadTasks", str(row)[:50])

    def test_also_of_one_task_and_where_no_plan_comes(self):
        never = plain_book(2, [(0, 1, 0)], [(0, 5), (1, 0)])
        self.assertIsNone(plan_by(never, [0, 1]))
        for row in ([0], [0, 0], [0, 2], (0, 1), [True, 0]):
            self.assertEqual(name_of_error(plan_by, never, row), "BadTasks")
        for row in ([], [1], [False], (0,), [0, 0], 0):
            self.assertEqual(name_of_error(plan_by, plain_book(1), row), "BadTasks")

    def test_nothing_is_changed(self):
        book, row = shop_book(), [3, 0, 2, 1]
        plan_by(book, row)
        self.assertEqual((book, row), (shop_book(), [3, 0, 2, 1]))
        for row in ([0, [1], 2, 3], [3, 2, 1]):
            before = copy.deepcopy(row)
            name_of_error(plan_by, book, row)
            self.assertEqual(row, before)


class Made(unittest.TestCase):
    def test_each_as_early_as_can_be(self):
        book = book_of_tasks([task("a", 4), task("b", 2, start=7), task("c", 1, start=1000000)])
        for row in itertools.permutations(range(3)):
            told = plan_by(book, list(row))
            self.assertIs(type(told), tuple)
            self.assertEqual(told, (0, 7, 1000000))

    def test_one_machine_in_the_rows_order(self):
        book = book_of_tasks([task("a", 4, "saw"), task("b", 2, "saw"), task("c", 3, "saw")], ("saw",))
        self.assertEqual(plan_by(book, [0, 1, 2]), (0, 4, 6))
        self.assertEqual(plan_by(book, [2, 1, 0]), (5, 3, 0))
        self.assertEqual(plan_by(book, [1, 2, 0]), (5, 0, 2))

    def test_two_machines_do_not_wait_for_one_another(self):
        book = book_of_tasks([task("a", 4, "saw"), task("b", 2, "press"), task("c", 3, "saw")], ("saw", "press"))
        self.assertEqual(plan_by(book, [0, 1, 2]), (0, 0, 4))

    def test_a_later_one_goes_in_a_gap(self):
        tasks = [task("a", 4, "saw", start=3), task("b", 3, "saw"), task("c", 4, "saw")]
        book = book_of_tasks(tasks, ("saw",))
        self.assertEqual(plan_by(book, [0, 1, 2]), (3, 0, 7))
        self.assertEqual(plan_by(book, [0, 2, 1]), (3, 0, 7))

    def test_forerunners_by_waits(self):
        book = plain_book(3, [(0, 1, 4), (1, 2, 0)], length=2)
        for row in itertools.permutations(range(3)):
            self.assertEqual(plan_by(book, list(row)), (0, 6, 8))

    def test_of_several_waits_all_are_kept(self):
        book = plain_book(3, [(0, 2, 4), (0, 2, 9), (1, 2, 1), (0, 2, 0)], length=2)
        for row in itertools.permutations(range(3)):
            self.assertEqual(plan_by(book, list(row)), (0, 0, 11))

    def test_the_first_one_in_the_row_that_can_is_next(self):
        tasks = [task("a", 4, "saw"), task("b", 2, "saw"), task("c", 3, "saw")]
        book = book_of_tasks(tasks, ("saw",), waits=[(0, 1, 0)])
        self.assertEqual(plan_by(book, [1, 2, 0]), (3, 7, 0))
        self.assertEqual(plan_by(book, [1, 0, 2]), (0, 4, 6))
        self.assertEqual(plan_by(book, [2, 1, 0]), (3, 7, 0))

    def test_again_from_the_front_of_the_row(self):
        tasks = [task("a", 1, "saw"), task("b", 5, "saw"), task("c", 2, "saw"), task("d", 3, "saw")]
        book = book_of_tasks(tasks, ("saw",), waits=[(0, 1, 0)])
        self.assertEqual(plan_by(book, [1, 0, 2, 3]), (0, 1, 6, 8))

    def test_fixed_ones_first(self):
        tasks = [task("a", 4, "saw"), task("b", 2, "saw"), task("c", 3, "saw")]
        book = book_of_tasks(tasks, ("saw",), fixed=[(1, 3)])
        self.assertEqual(plan_by(book, [0, 1, 2]), (5, 3, 0))
        self.assertEqual(plan_by(book, [2, 0, 1]), (5, 3, 0))
        book = book_of_tasks(tasks, ("saw",), fixed=[(1, 2)])
        self.assertEqual(plan_by(book, [2, 0, 1]), (7, 2, 4))

    def test_gaps_ahead_of_fixed_ones(self):
        for begin, plan in ((3, (5, 3)), (4, (0, 4)), (5, (0, 5)), (0, (2, 0))):
            book = book_of_tasks([task("a", 4, "saw"), task("b", 2, "saw")], ("saw",), fixed=[(1, begin)])
            self.assertEqual(plan_by(book, [0, 1]), plan)

    def test_gaps_between_fixed_ones(self):
        tasks = [task("a", 4, "saw"), task("b", 2, "saw"), task("c", 3, "saw"), task("d", 1, "saw")]
        for begin, hour in ((5, 8), (6, 2), (7, 2)):
            book = book_of_tasks(tasks[:3], ("saw",), fixed=[(1, 0), (2, begin)])
            self.assertEqual(plan_by(book, [0, 1, 2]), (hour, 0, begin))
        book = book_of_tasks(tasks, ("saw",), fixed=[(2, 6), (1, 0), (3, 5)])
        self.assertEqual(plan_by(book, [3, 2, 1, 0]), (9, 0, 6, 5))

    def test_gaps_of_goods(self):
        tasks = [task("a", 4, needs=(("oil", 2),)), task("b", 2, needs=(("oil", 2),)), task("c", 9, needs=(("oil", 1),))]
        for many, begin, plan in ((3, 3, (5, 3, 0)), (3, 4, (0, 4, 0)), (4, 3, (5, 3, 0)), (5, 3, (0, 3, 0))):
            book = book_of_tasks(tasks, goods=(("oil", many),), fixed=[(1, begin), (2, 0)])
            self.assertEqual(plan_by(book, [0, 1, 2]), plan)

    def test_a_good_that_lacks_in_the_midst(self):
        tasks = [task("a", 9, needs=(("oil", 2),)), task("b", 1, needs=(("oil", 2),)), task("c", 1, needs=(("oil", 1),))]
        goods = (("oil", 3),)
        self.assertEqual(plan_by(book_of_tasks(tasks, goods=goods, fixed=[(1, 4), (2, 2)]), [0, 1, 2]), (5, 4, 2))
        self.assertEqual(plan_by(book_of_tasks(tasks, goods=goods, fixed=[(1, 9), (2, 2)]), [0, 1, 2]), (0, 9, 2))
        self.assertEqual(plan_by(book_of_tasks(tasks, goods=goods, fixed=[(1, 8), (2, 2)]), [0, 1, 2]), (9, 8, 2))

    def test_machine_and_goods_at_once(self):
        tasks = [task("a", 2, "saw", (("oil", 1), ("crew", 1))), task("b", 3, "saw"), task("c", 2, needs=(("oil", 1),)),
                 task("d", 4, needs=(("crew", 2),))]
        book = book_of_tasks(tasks, ("saw",), (("oil", 1), ("crew", 2)), fixed=[(1, 0), (2, 4), (3, 8)])
        self.assertEqual(plan_by(book, [0, 1, 2, 3]), (6, 0, 4, 8))
        book = book_of_tasks(tasks, ("saw",), (("oil", 1), ("crew", 2)), fixed=[(1, 0), (2, 4), (3, 7)])
        self.assertEqual(plan_by(book, [0, 1, 2, 3]), (11, 0, 4, 7))

    def test_no_good_plan_comes(self):
        self.assertIsNone(plan_by(plain_book(2, [(0, 1, 3)], [(1, 3)]), [0, 1]))
        self.assertEqual(plan_by(plain_book(2, [(0, 1, 3)], [(1, 4)]), [0, 1]), (0, 4))
        tasks = [task("a", 4, "saw"), task("b", 2, "saw")]
        for begin, plan in ((3, None), (4, (0, 4))):
            book = book_of_tasks(tasks, ("saw",), fixed=[(0, 0), (1, begin)])
            self.assertEqual(plan_by(book, [1, 0]), plan)
        tasks = [task("a", 4, needs=(("oil", 2),)), task("b", 2, needs=(("oil", 2),)), task("c", 2, needs=(("oil", 1),))]
        for many, plan in ((3, None), (4, (0, 2, 0))):
            book = book_of_tasks(tasks, goods=(("oil", many),), fixed=[(0, 0), (1, 2)])
            self.assertEqual(plan_by(book, [2, 1, 0]), plan)

    def test_only_another_row_makes_a_good_plan(self):
        tasks = [task("a", 4, "saw"), task("b", 2, "saw"), task("c", 1)]
        book = book_of_tasks(tasks, ("saw",), waits=[(1, 2, 0)], fixed=[(2, 2)])
        self.assertIsNone(plan_by(book, [0, 1, 2]))
        self.assertEqual(plan_by(book, [1, 0, 2]), (2, 0, 2))

    def test_fixed_forerunners(self):
        book = plain_book(3, [(0, 1, 2), (1, 2, 0)], [(0, 10)], length=3)
        self.assertEqual(plan_by(book, [2, 1, 0]), (10, 15, 18))
        book = plain_book(3, [(0, 1, 2), (1, 2, 0)], [(1, 5)], length=3)
        self.assertEqual(plan_by(book, [2, 1, 0]), (0, 5, 8))

    def test_one_task(self):
        self.assertEqual(plan_by(plain_book(1), [0]), (0,))
        self.assertEqual(plan_by(plain_book(1, (), [(0, 1000000)]), [0]), (1000000,))

    def test_asked_again_the_same_is_told(self):
        for book in some_books(50, 41):
            row = list(range(len(book[2])))
            self.assertEqual(plan_by(book, row), plan_by(book, row))

    def test_by_hand(self):
        rng = random.Random(42)
        none = 0
        for book in some_books(500, 42, 7):
            row = list(range(len(book[2])))
            for _ in range(3):
                rng.shuffle(row)
                told = plan_by(book, list(row))
                self.assertEqual(told, plan_by_hand(book, row))
                none += told is None
        self.assertTrue(50 < none < 1450)

    def test_thirty_tasks(self):
        rng = random.Random(43)
        goods = (("oil", 9), ("crew", 5), ("glue", 3), ("wood", 7))
        with within(120):
            for _ in range(5):
                waits = [(a, b, rng.randint(0, 9)) for a, b in some_pairs(rng, 30, 60)]
                tasks = [task(NAMES[k], rng.randint(1, 20), rng.choice(["", "saw", "press"]),
                              tuple((good, rng.randint(1, many)) for good, many in goods), rng.randint(0, 50))
                         for k in range(30)]
                book = book_of_tasks(tasks, ("saw", "press"), goods, waits)
                row = list(range(30))
                rng.shuffle(row)
                self.assertEqual(plan_by(book, row), plan_by_hand(book, row))


if __name__ == "__main__":
    unittest.main()
