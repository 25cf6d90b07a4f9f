"""One machine alone (point 100 with 33 and 34; the interface's sums.py)."""

import copy
import itertools
import random
import unittest

from boundsmith.onemachine import fewest_late
from boundsmith.plans import fault_of, worth_of
from boundsmith.sums import count_plan, sum_plan, sum_shown
from tests.samples import NAMES, book_of_tasks, error_of, name_of_error, plain_book, put, shop_book, task, things, within

CALLS = (sum_plan, sum_shown, count_plan)


def single(*rows):
    """A single book of tuples (LENGTH, BY, WEIGHT)."""
    tasks = [task(NAMES[k], length, "saw", (), 0, due, weight) for k, (length, due, weight) in enumerate(rows)]
    return book_of_tasks(tasks, ("press", "saw"), (("oil", 2),))


def some_single(rng, many):
    return single(*[(rng.randint(1, 6), rng.choice([None, rng.randint(0, 15), rng.randint(0, 15)]), rng.randint(0, 4))
                    for _ in range(many)])


def plan_of(book, order):
    begins, hour = {}, 0
    for k in order:
        begins[k] = hour
        hour += book[2][k][1]
    return tuple(begins[k] for k in range(len(book[2])))


def least_by_hand(book, worth):
    """The least worth of all orders, one behind the other."""
    orders = itertools.permutations(range(len(book[2])))
    return min(worth_of(book, plan_of(book, order), worth) for order in orders)


class Refused(unittest.TestCase):
    def refused(self, what, book):
        for call in CALLS:
            error = error_of(call, book)
            self.assertEqual((type(error).__name__, getattr(error, "what", None)),
                             ("BadBook", what) if what else ("NoneType", None))

    def test_what_is_no_book(self):
        for thing in things() + [single(), single(*[(1, None, 1)] * 31), list(single((1, None, 1)))]:
            self.refused("form", thing)
        self.refused("twice", put(single((1, None, 1), (1, None, 1)), (2, 1, 0), NAMES[0]))
        self.refused("unknown", put(single((1, None, 1)), (2, 0, 2), "lathe"))
        self.refused("many", put(single((1, None, 1)), (2, 0, 3), (("oil", 3),)))
        self.refused("early", put(put(single((1, None, 1)), (2, 0, 4), 3), (4,), ((0, 2),)))
        self.refused("ring", put(single((1, None, 1), (1, None, 1)), (3,), ((0, 1, 0), (1, 0, 0))))

    def test_each_way_in_which_it_is_not_single(self):
        book = single((3, 5, 2), (4, None, 1), (2, 9, 0))
        self.refused(None, book)
        for path, thing in (((2, 0, 2), "press"), ((2, 2, 2), "press"), ((2, 1, 2), ""), ((2, 0, 3), (("oil", 1),)),
                            ((2, 2, 4), 1), ((2, 0, 4), 1000000), ((3,), ((0, 1, 0),)), ((3,), ((2, 1, 5),)),
                            ((4,), ((0, 0),)), ((4,), ((1, 7),))):
            self.refused("single", put(book, path, thing))
        self.refused("single", plain_book(3))
        self.refused("single", plain_book(1))
        self.refused("single", shop_book())
        self.refused(None, single((1, None, 0)))
        self.refused(None, put(single((1, None, 0)), (2, 0, 2), "press"))
        self.refused(None, single(*[(1, 5, 1)] * 30))


class Sums(unittest.TestCase):
    def held(self, book):
        least, plan = sum_plan(book)
        self.assertEqual((type(least), type(plan)), (int, tuple))
        self.assertIsNone(fault_of(book, plan))
        self.assertEqual(worth_of(book, plan, "sum"), least)
        self.assertEqual(sum_shown(book), least)
        return least

    def test_known_ones(self):
        self.assertEqual(sum_plan(single((3, None, 2))), (6, (0,)))
        self.assertEqual(sum_plan(single((4, None, 1), (1, None, 3))), (8, (1, 0)))
        self.assertEqual(sum_shown(single((4, None, 1), (1, None, 3))), 8)
        self.assertEqual(self.held(single((4, None, 0), (1, None, 0))), 0)
        self.assertEqual(self.held(single((1000, 0, 1000), (1000, 0, 1000))), 3000000)

    def test_all_orders(self):
        rng = random.Random(1)
        for _ in range(300):
            book = some_single(rng, rng.randint(1, 5))
            self.assertEqual(self.held(book), least_by_hand(book, "sum"))

    def test_weight_nought(self):
        book = single((9, None, 0), (3, None, 1), (7, None, 0), (2, None, 1))
        self.assertEqual(self.held(book), 2 + 5)
        self.assertEqual(least_by_hand(book, "sum"), 7)

    def test_as_many_as_can_be(self):
        rng = random.Random(2)
        with within(20):
            for _ in range(20):
                self.held(some_single(rng, 30))


class Counts(unittest.TestCase):
    def held(self, book):
        count, plan, table = count_plan(book)
        self.assertEqual((type(count), type(plan), type(table)), (int, tuple, list))
        self.assertIsNone(fault_of(book, plan))
        self.assertEqual(worth_of(book, plan, "count"), count)
        rows = [(row[1], 0, 1000000 if row[5] is None else row[5], row[6]) for row in book[2]]
        self.assertEqual(table, fewest_late(rows)[2])
        self.assertEqual(count, len(rows) - max(k for k, hours in enumerate(table[-1]) if hours is not None))
        return count

    def test_known_ones(self):
        self.assertEqual(count_plan(single((3, 5, 2))), (0, (0,), [[0], [0, 3]]))
        self.assertEqual(count_plan(single((3, 2, 2))), (1, (0,), [[0], [0, None]]))
        self.assertEqual(self.held(single((3, 5, 1), (3, 5, 1), (2, 5, 1))), 1)

    def test_all_orders(self):
        rng = random.Random(3)
        for _ in range(300):
            book = some_single(rng, rng.randint(1, 5))
            self.assertEqual(self.held(book), least_by_hand(book, "count"))

    def test_tasks_without_a_by(self):
        book = single((1000, None, 1), (5, 5, 1), (1000, None, 1), (3, 8, 0))
        count, plan, table = count_plan(book)
        self.assertEqual((count, table[-1]), (0, [0, 3, 8, 1008, 2008]))
        self.assertEqual(self.held(book), 0)
        self.assertEqual(self.held(single(*[(1000, None, 1)] * 30)), 0)

    def test_as_many_as_can_be(self):
        rng = random.Random(4)
        with within(20):
            for _ in range(20):
                self.held(some_single(rng, 30))


class Own(unittest.TestCase):
    def test_what_is_told_may_be_changed(self):
        book = single((3, 5, 2), (4, None, 1), (2, 9, 0))
        before = copy.deepcopy(book)
        first = copy.deepcopy(count_plan(book))
        told = count_plan(book)
        told[2][1].append(5)
        told[2].append(5)
        self.assertEqual(count_plan(book), first)
        self.assertEqual((sum_plan(book), sum_shown(book)), (sum_plan(book), sum_shown(book)))
        self.assertEqual(book, before)

    def test_names_of_errors(self):
        for call in CALLS:
            self.assertEqual(name_of_error(call, plain_book(2)), "BadBook")


if __name__ == "__main__":
    unittest.main()
