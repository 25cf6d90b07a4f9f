"""A shop under way (points 90 and 91; the interface's underway.py)."""

import copy
import random
import unittest

from boundsmith.books import need_book
from boundsmith.errors import BadBook
from boundsmith.lists import plan_by
from boundsmith.plans import need_plan
from boundsmith.search import best_plan
from boundsmith.underway import Shop
from tests.samples import (
    NAMES, book_of_tasks, counts, deep, error_of, is_good_by_hand, name_of_error, plain_book, shop_book, some_books, task,
    things, within)
from tests.test_search import no_plan_book


def job_book():
    """Three tasks of a saw, one behind the other, and one that waits for the first."""
    tasks = [task("a", 4, "saw", due=9), task("b", 3, "saw", due=20), task("c", 2, "saw"), task("d", 5, "press")]
    return book_of_tasks(tasks, ("saw", "press"), (("oil", 2),), [(0, 3, 1)])


def stand(shop):
    return shop.the_hour(), shop.its_book(), shop.following(), shop.begun_tasks()


def put(things_told, at, thing):
    return things_told[:at] + (thing,) + things_told[at + 1:]


class Model:
    """A shop by the words of the document: how it stands, told whole behind each deed."""

    def __init__(self, book, worth):
        self.worth = worth
        self.told = [(book, 0, None)]
        self.gone = []

    def stand(self):
        book, hour, plan = self.told[-1]
        return hour, self.rest(book, hour), plan, self.begun(book, hour)

    def rest(self, book, hour):
        fixed = dict(book[4])
        tasks = tuple(row if k in fixed else put(row, 4, max(hour, row[4])) for k, row in enumerate(book[2]))
        return put(book, 2, tasks)

    def begun(self, book, hour):
        return sorted((k, begin) for k, begin in book[4] if begin < hour)

    def good(self, book, hour, plan):
        rest = self.rest(book, hour)
        return name_of_error(need_plan, rest, plan) is None and is_good_by_hand(rest, plan)

    def do(self, deed):
        """Whether the deed can be; it is done then."""
        made = self.made(deed)
        if made is None:
            return False
        book, hour, plan = made
        if name_of_error(need_book, book) is not None or not counts(book, self.worth):
            return False
        if plan is not None and not self.good(book, hour, plan):
            plan = None
        self.told.append((book, hour, plan))
        self.gone = []
        return True

    def made(self, deed):
        book, hour, plan = self.told[-1]
        machines, goods, tasks, waits, fixed = book
        begun = dict(self.begun(book, hour))
        whole = [type(part) is int for part in deed]
        word = deed[0]
        if word == "plan":
            return (book, hour, deed[1]) if self.good(book, hour, deed[1]) else None
        if word == "hour":
            if plan is None or not whole[1] or not hour < deed[1] <= 1000000:
                return None
            new = tuple((k, begin) for k, begin in enumerate(plan) if begin < deed[1] and k not in dict(fixed))
            return put(book, 4, fixed + new), deed[1], plan
        if word == "task":
            return put(book, 2, tasks + (deed[1],)), hour, None
        if word == "closed":
            name, machine, first, behind = deed[1:]
            if not (whole[3] and whole[4] and hour <= first <= 1000000 and 1 <= behind - first <= 1000) or machine == "":
                return None
            row = (name, behind - first, machine, (), first, None, 0)
            return (machines, goods, tasks + (row,), waits, fixed + ((len(tasks), first),)), hour, None
        number = deed[2] if word == "wait" else deed[1]
        if type(number) is not int or not 0 <= number < len(tasks):
            return None
        if word == "wait":
            return None if number in begun else (put(book, 3, waits + (deed[1:],)), hour, plan)
        if word == "due":
            return put(book, 2, put(tasks, number, put(tasks[number], 5, deed[2]))), hour, plan
        if word == "length":
            length = deed[2]
            if not whole[2] or (number in begun and begun[number] + tasks[number][1] <= hour):
                return None
            if number in begun and begun[number] + length < hour:
                return None
            return put(book, 2, put(tasks, number, put(tasks[number], 1, length))), hour, plan
        if number in begun:
            return None

        def less(k):
            return k - (k > number)
        waits = tuple((less(a), less(b), gap) for a, b, gap in waits if number not in (a, b))
        fixed = tuple((less(k), begin) for k, begin in fixed if k != number)
        plan = None if plan is None else plan[:number] + plan[number + 1:]
        return (machines, goods, tasks[:number] + tasks[number + 1:], waits, fixed), hour, plan


class Case(unittest.TestCase):
    def bad(self, shop, *deeds):
        """The deeds are refused, and all stands as it stood."""
        for deed in deeds:
            before = stand(shop)
            self.assertEqual(name_of_error(shop.do, deed), "BadDeed", str(deed)[:80])
            self.assertEqual(stand(shop), before)

    def done(self, shop, *deeds):
        for deed in deeds:
            self.assertIsNone(shop.do(deed))


class Made(Case):
    def test_the_worth(self):
        for worth in things() + ["sum", "count", "Span", ["late"]]:
            self.assertEqual(name_of_error(Shop, shop_book(), worth), None if worth in ("span", "late") else "BadWorth")
        self.assertEqual(name_of_error(Shop, plain_book(2, weight=0), "span"), "BadWorth")
        self.assertEqual(name_of_error(Shop, plain_book(2), "late"), "BadWorth")

    def test_at_first(self):
        for book in [shop_book(), no_plan_book(2)] + some_books(50, 1):
            for worth in ("span", "late"):
                if counts(book, worth):
                    shop = Shop(book, worth)
                    self.assertEqual(stand(shop), (0, book, None, []))
                    self.assertEqual(name_of_error(shop.undo), "NoDeed")
                    self.assertEqual(name_of_error(shop.redo), "NoDeed")
                    self.assertEqual(stand(shop), (0, book, None, []))

    def test_a_book_with_no_good_plan(self):
        shop = Shop(no_plan_book(2), "span")
        self.assertEqual(name_of_error(shop.planned, 2000), "NoPlan")
        self.bad(shop, ("plan", (0, 3, 6)), ("plan", (0, 3, 5)))


class Plans(Case):
    def test_followed(self):
        shop = Shop(job_book(), "span")
        self.done(shop, ("plan", (0, 4, 7, 5)))
        self.assertEqual(shop.following(), (0, 4, 7, 5))
        self.assertIs(type(shop.following()), tuple)
        self.bad(shop, ("plan", (0, 4, 6, 5)), ("plan", (0, 4, 7)), ("plan", [0, 4, 7, 5]), ("plan", None), ("plan", ()),
                 ("plan", (0, 4, 7, 4)), ("plan", (False, 4, 7, 5)), ("plan", 0, 4, 7, 5), ("plan",), ("plan", (0, 4, 7, 5), 0))
        self.assertEqual(shop.following(), (0, 4, 7, 5))
        self.done(shop, ("plan", (3, 7, 1, 8)))
        self.assertEqual(shop.following(), (3, 7, 1, 8))
        self.assertEqual(shop.its_book(), job_book())

    def test_good_for_the_book_as_it_stands(self):
        shop = Shop(job_book(), "span")
        self.done(shop, ("plan", (4, 8, 11, 9)), ("hour", 3))
        self.bad(shop, ("plan", (0, 4, 7, 5)), ("plan", (2, 6, 9, 7)))
        self.done(shop, ("plan", (3, 7, 10, 8)))
        self.done(shop, ("hour", 8))
        self.bad(shop, ("plan", (3, 8, 11, 8)), ("plan", (3, 7, 9, 8)), ("plan", (3, 7, 10, 7)))
        self.done(shop, ("plan", (3, 7, 20, 30)))

    def test_planned(self):
        shop = Shop(job_book(), "late")
        for deed in (None, ("plan", (0, 4, 7, 5)), ("hour", 5), ("task", task("e", 2, "saw")), ("length", 1, 9), ("gone", 0)):
            if deed is not None:
                error_of(shop.do, deed)
            for most in (0, 1, 2000):
                before = stand(shop)
                told, best = shop.planned(most), best_plan(shop.its_book(), "late", most)
                self.assertEqual(vars(told), vars(best))
                self.assertEqual(stand(shop), before)
        for most in things() + [-1, 2001, "5"]:
            is_most = type(most) is int and 0 <= most <= 2000
            self.assertEqual(name_of_error(shop.planned, most), None if is_most else "BadMost")
        shop = Shop(no_plan_book(2), "span")
        self.assertEqual(name_of_error(shop.planned, 2001), "BadMost")
        self.assertEqual(error_of(shop.planned, 9).paper, error_of(best_plan, no_plan_book(2), "span", 9).paper)


class Hours(Case):
    def test_later(self):
        shop = Shop(job_book(), "span")
        self.done(shop, ("plan", (0, 4, 7, 5)))
        self.bad(shop, ("hour", 0), ("hour", -1), ("hour", True), ("hour", "5"), ("hour", None), ("hour",), ("hour", 5, 6),
                 ("hour", 1000001), ("hour", 10 ** 999), ("hour", [5]))
        self.done(shop, ("hour", 1))
        self.bad(shop, ("hour", 1), ("hour", 0))
        self.done(shop, ("hour", 2), ("hour", 999999), ("hour", 1000000))
        self.assertEqual(shop.the_hour(), 1000000)
        self.bad(shop, ("hour", 1000000), ("hour", 1000001), ("hour", 5))

    def test_what_begins_at_the_hour_has_not_begun(self):
        shop = Shop(shop_book(), "span")
        self.done(shop, ("plan", (8, 6, 15, 8)), ("hour", 6))
        self.assertEqual([row[4] for row in shop.its_book()[2]], [6, 1, 6, 6])
        self.assertEqual((shop.begun_tasks(), shop.following()), ([], (8, 6, 15, 8)))
        self.done(shop, ("hour", 7))
        self.assertEqual((shop.begun_tasks(), shop.its_book()[4]), ([(1, 6)], ((1, 6),)))
        self.done(shop, ("hour", 8))
        self.assertEqual((shop.begun_tasks(), shop.its_book()[4]), ([(1, 6)], ((1, 6),)))
        self.done(shop, ("hour", 9))
        self.assertEqual(shop.begun_tasks(), [(0, 8), (1, 6), (3, 8)])

    def test_what_begins_ahead_is_fixed(self):
        shop = Shop(job_book(), "span")
        self.done(shop, ("plan", (2, 9, 0, 7)), ("hour", 7))
        self.assertEqual(shop.its_book()[4], ((0, 2), (2, 0)))
        self.assertEqual([row[4] for row in shop.its_book()[2]], [0, 7, 0, 7])
        self.assertEqual((shop.begun_tasks(), shop.following()), ([(0, 2), (2, 0)], (2, 9, 0, 7)))
        self.done(shop, ("hour", 8))
        self.assertEqual(shop.its_book()[4], ((0, 2), (2, 0), (3, 7)))
        self.assertEqual(shop.begun_tasks(), [(0, 2), (2, 0), (3, 7)])
        self.done(shop, ("hour", 100))
        self.assertEqual(shop.its_book()[4], ((0, 2), (2, 0), (3, 7), (1, 9)))
        self.assertEqual(shop.begun_tasks(), [(0, 2), (1, 9), (2, 0), (3, 7)])
        self.assertEqual(shop.following(), (2, 9, 0, 7))

    def test_behind_what_is_fixed_already(self):
        shop = Shop(shop_book(), "span")
        self.done(shop, ("plan", (0, 6, 7, 8)), ("hour", 7))
        self.assertEqual(shop.its_book()[4], ((1, 6), (0, 0)))
        self.assertEqual(shop.begun_tasks(), [(0, 0), (1, 6)])


class HoursWithoutPlan(Case):
    """The hour goes on with a plan that is followed, else the deed is refused."""

    HOURS = [("hour", hour) for hour in (1, 2, 3, 4, 10, 999999, 1000000)]

    def waits(self, shop):
        """No plan is followed, and the hour goes on only behind one that is."""
        self.assertIsNone(shop.following())
        self.bad(shop, *self.HOURS, ("hour", 0), ("hour", 1000001), ("hour", None), ("hour",), ("hour", 9, 9))
        hour, plan = shop.the_hour(), shop.planned(2000).plan
        self.done(shop, ("plan", plan), ("hour", hour + 1))
        self.assertEqual((shop.the_hour(), shop.following()), (hour + 1, plan))

    def test_the_book_of_the_fault(self):
        shop = Shop((("sa",), (), (("a", 1, "", (), 0, None, 1),), (), ()), "span")
        self.bad(shop, ("hour", 10))
        self.assertEqual(shop.the_hour(), 0)
        self.waits(shop)

    def test_a_new_shop(self):
        with_plans = 0
        for book in [shop_book(), job_book(), no_plan_book(2)] + some_books(40, 8):
            for worth in ("span", "late"):
                if counts(book, worth):
                    shop = Shop(book, worth)
                    self.bad(shop, *self.HOURS)
                    self.assertEqual(stand(shop), (0, book, None, []))
                    if name_of_error(shop.planned, 2000) is None:
                        self.waits(shop)
                        with_plans += 1
        self.assertGreater(with_plans, 30)

    def test_a_plan_that_is_refused(self):
        shop = Shop(job_book(), "late")
        self.bad(shop, ("plan", (0, 4, 6, 5)), ("hour", 1))
        self.waits(shop)

    def test_behind_task_and_closed(self):
        for deed in (("task", task("e", 1)), ("closed", "off", "press", 900, 905)):
            for worth in ("span", "late"):
                shop = Shop(job_book(), worth)
                self.done(shop, ("plan", (0, 4, 7, 5)), deed)
                self.waits(shop)
                shop = Shop(job_book(), worth)
                self.done(shop, ("plan", (0, 4, 7, 5)), ("hour", 2), deed)
                self.waits(shop)

    def test_behind_a_deed_by_which_the_plan_is_not_good(self):
        for deed in (("length", 1, 4), ("length", 0, 5), ("wait", 2, 1, 0), ("wait", 0, 1, 1)):
            for worth in ("span", "late"):
                shop = Shop(job_book(), worth)
                self.done(shop, ("plan", (0, 4, 7, 5)), ("hour", 2), deed)
                self.waits(shop)

    def test_behind_a_deed_by_which_the_plan_is_good_still(self):
        for deed in (("length", 1, 2), ("length", 0, 3), ("wait", 1, 2, 0), ("due", 0, None), ("gone", 2), ("plan", (0, 4, 8, 6))):
            shop = Shop(job_book(), "span")
            self.done(shop, ("plan", (0, 4, 7, 5)), ("hour", 2), deed, ("hour", 3))
            self.assertEqual(shop.begun_tasks(), [(0, 0)])

    def test_behind_an_undo_to_no_plan(self):
        shop = Shop(job_book(), "span")
        self.done(shop, ("plan", (0, 4, 7, 5)), ("hour", 1))
        shop.undo()
        shop.undo()
        self.bad(shop, *self.HOURS)
        shop.redo()
        self.done(shop, ("hour", 5))
        self.assertEqual((shop.the_hour(), shop.begun_tasks()), (5, [(0, 0), (1, 4)]))
        shop.undo()
        shop.undo()
        self.waits(shop)

    def test_behind_undo_and_redo_of_a_deed_by_which_none_is_followed(self):
        for deed in (("task", task("e", 1)), ("length", 0, 5), ("closed", "off", "press", 900, 905)):
            shop = Shop(job_book(), "span")
            self.done(shop, ("plan", (0, 4, 7, 5)), deed)
            shop.undo()
            shop.redo()
            self.bad(shop, *self.HOURS)
            shop.undo()
            self.done(shop, ("hour", 3))
            self.assertEqual((shop.the_hour(), shop.following()), (3, (0, 4, 7, 5)))

    def test_what_was_undone_stays(self):
        shop = Shop(job_book(), "span")
        self.done(shop, ("plan", (0, 4, 7, 5)), ("hour", 2))
        before = stand(shop)
        shop.undo()
        shop.undo()
        self.bad(shop, *self.HOURS)
        self.assertEqual(name_of_error(shop.undo), "NoDeed")
        shop.redo()
        shop.redo()
        self.assertEqual(stand(shop), before)
        self.assertEqual(name_of_error(shop.redo), "NoDeed")


class Lengths(Case):
    def shop(self):
        shop = Shop(job_book(), "span")
        self.done(shop, ("plan", (0, 6, 4, 5)), ("hour", 3))
        return shop

    def test_what_has_begun(self):
        shop = self.shop()
        self.bad(shop, ("length", 0, 2), ("length", 0, 1), ("length", 0, None), ("length", 0, "5"), ("length", 0, [5]),
                 ("length", 0, True), ("length", 0, 1001), ("length", 0, 10 ** 999))
        self.done(shop, ("length", 0, 3))
        self.assertEqual((shop.its_book()[2][0][1], shop.following()), (3, (0, 6, 4, 5)))
        self.bad(shop, ("length", 0, 4), ("length", 0, 3))
        shop = self.shop()
        self.done(shop, ("length", 0, 4), ("length", 0, 1000))
        self.assertIsNone(shop.following())
        self.done(shop, ("plan", (0, 1003, 1000, 1001)), ("hour", 999))
        self.bad(shop, ("length", 0, 998))
        self.done(shop, ("length", 0, 999))
        self.bad(shop, ("length", 0, 1000))

    def test_what_has_ended(self):
        shop = self.shop()
        self.done(shop, ("hour", 4))
        self.bad(shop, ("length", 0, 4), ("length", 0, 5), ("length", 0, 1000))
        shop = self.shop()
        self.done(shop, ("hour", 5))
        self.bad(shop, ("length", 2, 0))
        self.done(shop, ("length", 2, 1))
        shop = self.shop()
        self.done(shop, ("hour", 6))
        self.bad(shop, ("length", 2, 9))

    def test_what_has_not_begun(self):
        shop = self.shop()
        self.done(shop, ("length", 1, 1), ("length", 1, 1000), ("length", 3, 2))
        self.bad(shop, ("length", 1, 0), ("length", 1, 1001), ("length", 1, True), ("length", 1, None), ("length", 1, "5"),
                 ("length", 4, 5), ("length", -1, 5), ("length", True, 5), ("length", None, 5), ("length", 1), ("length", 1, 5, 5))
        self.assertEqual(shop.following(), (0, 6, 4, 5))

    def test_what_is_fixed_and_has_not_begun(self):
        shop = Shop(shop_book(), "span")
        self.done(shop, ("plan", (0, 6, 7, 8)), ("hour", 6), ("length", 1, 1), ("length", 1, 900))
        self.done(shop, ("plan", (0, 6, 7, 906)), ("hour", 7), ("length", 1, 1))
        self.bad(shop, ("length", 1, 2))


class Tasks(Case):
    def test_a_task_more(self):
        shop = Shop(job_book(), "span")
        self.done(shop, ("plan", (0, 4, 7, 5)), ("task", task("e", 2, "saw", (("oil", 2),), 7, None, 0)))
        self.assertEqual(shop.its_book()[2][4], ("e", 2, "saw", (("oil", 2),), 7, None, 0))
        self.assertIsNone(shop.following())
        self.bad(shop, ("task", task("e", 2)), ("task", task("f", 2, "lathe")), ("task", task("f", 2, "", (("oil", 3),))),
                 ("task", task("f", 2, "", (("ink", 1),))), ("task", task("f", 0)), ("task", task("f", 1001)),
                 ("task", task("F", 2)), ("task", list(task("f", 2))), ("task", task("f", 2)[:6]), ("task", None), ("task",),
                 ("task",) + task("f", 2), ("task", task("f", 2, "", [("oil", 1)])), ("task", task("f", 2), 5))

    def test_thirty_and_one_more(self):
        shop = Shop(plain_book(29), "span")
        self.done(shop, ("task", task("y", 3)))
        self.bad(shop, ("task", task("z", 3)), ("closed", "z", "saw", 0, 5))
        self.assertEqual(len(shop.its_book()[2]), 30)
        self.done(shop, ("gone", 4), ("task", task("z", 3)))
        self.bad(shop, ("task", task("zz", 3)))

    def test_from_ahead_of_the_hour(self):
        shop = Shop(job_book(), "span")
        self.done(shop, ("plan", (50, 60, 70, 80)), ("hour", 50))
        self.done(shop, ("task", task("e", 2, "saw")), ("task", task("f", 2, "saw", (), 60)))
        self.assertEqual([row[4] for row in shop.its_book()[2]], [50, 50, 50, 50, 50, 60])


class Gone(Case):
    def test_waits_and_fixed_ones(self):
        book = plain_book(5, [(0, 1, 2), (1, 2, 3), (0, 3, 4), (3, 4, 5)], [(4, 50), (1, 9), (3, 20)])
        shop = Shop(book, "span")
        self.done(shop, ("plan", (0, 9, 13, 20, 50)), ("gone", 1))
        told = shop.its_book()
        self.assertEqual(told[2], book[2][:1] + book[2][2:])
        self.assertEqual(told[3:], (((0, 2, 4), (2, 3, 5)), ((3, 50), (2, 20))))
        self.assertEqual(shop.following(), (0, 13, 20, 50))
        self.done(shop, ("gone", 3))
        self.assertEqual(shop.its_book()[3:], (((0, 2, 4),), ((2, 20),)))
        self.assertEqual(shop.following(), (0, 13, 20))

    def test_what_has_begun(self):
        shop = Shop(job_book(), "span")
        self.done(shop, ("plan", (0, 4, 7, 5)), ("hour", 5))
        self.bad(shop, ("gone", 0), ("gone", 1), ("gone", 4), ("gone", -1), ("gone", True), ("gone", None), ("gone",),
                 ("gone", 2, 3), ("gone", [2]))
        self.done(shop, ("gone", 2))
        self.assertEqual((shop.following(), shop.begun_tasks()), ((0, 4, 5), [(0, 0), (1, 4)]))
        self.assertEqual(shop.its_book()[3], ((0, 2, 1),))

    def test_one_at_the_hour_is_not_begun(self):
        shop = Shop(plain_book(2, fixed=[(0, 5)]), "span")
        self.done(shop, ("plan", (5, 9)), ("hour", 5))
        self.assertEqual(shop.begun_tasks(), [])
        self.done(shop, ("gone", 0))
        shop = Shop(plain_book(2, fixed=[(0, 5)]), "span")
        self.done(shop, ("plan", (5, 9)), ("hour", 6))
        self.assertEqual(shop.begun_tasks(), [(0, 5)])
        self.bad(shop, ("gone", 0))

    def test_the_last_one_and_the_last_that_counts(self):
        shop = Shop(plain_book(1), "span")
        self.bad(shop, ("gone", 0))
        shop = Shop(book_of_tasks([task("a", 3, due=5), task("b", 3)]), "late")
        self.bad(shop, ("gone", 0))
        self.done(shop, ("gone", 1))
        shop = Shop(book_of_tasks([task("a", 3, due=5), task("b", 3, weight=0)]), "span")
        self.bad(shop, ("gone", 0))


class Waits(Case):
    def test_a_wait_more(self):
        shop = Shop(job_book(), "span")
        self.done(shop, ("plan", (0, 4, 9, 5)), ("wait", 1, 2, 2))
        self.assertEqual((shop.its_book()[3], shop.following()), (((0, 3, 1), (1, 2, 2)), (0, 4, 9, 5)))
        self.done(shop, ("wait", 1, 2, 3))
        self.assertIsNone(shop.following())
        self.done(shop, ("wait", 0, 3, 1), ("wait", 0, 1, 1000))
        self.bad(shop, ("wait", 2, 1, 0), ("wait", 1, 1, 0), ("wait", 1, 4, 0), ("wait", 4, 1, 0), ("wait", 0, 2, 1001),
                 ("wait", 0, 2, -1), ("wait", 0, 2), ("wait", True, 2, 0), ("wait", 0, True, 0), ("wait", 0, 2, True),
                 ("wait", None, 2, 0), ("wait", 0, None, 0), ("wait", -1, 2, 0), ("wait", 0, -1, 0), ("wait", 3, 0, 0))

    def test_what_has_begun(self):
        shop = Shop(job_book(), "span")
        self.done(shop, ("plan", (0, 4, 7, 5)), ("hour", 1))
        self.bad(shop, ("wait", 1, 0, 0), ("wait", 2, 0, 5))
        self.done(shop, ("wait", 0, 1, 0))
        self.assertEqual(shop.following(), (0, 4, 7, 5))

    def test_sixty_and_one_more(self):
        shop = Shop(plain_book(9, [(k % 8, 8, 0) for k in range(59)]), "span")
        self.done(shop, ("wait", 0, 8, 7))
        self.bad(shop, ("wait", 0, 8, 7), ("wait", 1, 2, 0))


class Dues(Case):
    def test_any_task(self):
        shop = Shop(job_book(), "late")
        self.done(shop, ("plan", (0, 4, 7, 5)), ("hour", 20))
        for due in (0, 5, 1000000, None):
            for number in range(1, 4):
                self.done(shop, ("due", number, due))
                self.assertEqual(shop.its_book()[2][number][5], due)
        self.assertEqual(shop.following(), (0, 4, 7, 5))
        self.bad(shop, ("due", 0, None), ("due", 0, -1), ("due", 0, 1000001), ("due", 0, True), ("due", 0, "5"), ("due", 0, [5]),
                 ("due", 4, 5), ("due", -1, 5), ("due", True, 5), ("due", None, 5), ("due", 0), ("due", 0, 5, 5))
        self.done(shop, ("due", 1, 0), ("due", 0, None))
        shop = Shop(job_book(), "span")
        self.done(shop, ("due", 0, None), ("due", 1, None))


class Closed(Case):
    def test_a_task_more(self):
        shop = Shop(job_book(), "span")
        self.done(shop, ("plan", (0, 4, 7, 5)), ("hour", 2), ("closed", "off", "press", 20, 23))
        self.assertEqual(shop.its_book()[2][4], ("off", 3, "press", (), 20, None, 0))
        self.assertEqual(shop.its_book()[4], ((0, 0), (4, 20)))
        self.assertIsNone(shop.following())
        self.done(shop, ("closed", "now", "press", 2, 3))
        self.assertEqual(shop.its_book()[4], ((0, 0), (4, 20), (5, 2)))
        self.assertEqual(shop.its_book()[2][5][4], 2)
        self.assertEqual(shop.begun_tasks(), [(0, 0)])

    def test_bounds(self):
        shop = Shop(job_book(), "span")
        self.done(shop, ("plan", (5, 9, 12, 10)), ("hour", 5))
        self.bad(shop, ("closed", "off", "saw", 4, 9), ("closed", "off", "saw", 5, 5), ("closed", "off", "saw", 9, 8),
                 ("closed", "off", "saw", 5, 1006), ("closed", "off", "saw", 1000001, 1000002), ("closed", "off", "", 5, 9),
                 ("closed", "off", "lathe", 5, 9), ("closed", "a", "saw", 5, 9), ("closed", "", "saw", 5, 9),
                 ("closed", "Off", "saw", 5, 9), ("closed", "closedoff", "saw", 5, 9), ("closed", None, "saw", 5, 9),
                 ("closed", "off", None, 5, 9), ("closed", "off", ["saw"], 5, 9), ("closed", "off", "saw", True, 9),
                 ("closed", "off", "saw", 5, True), ("closed", "off", "saw", None, 9), ("closed", "off", "saw", 5, None),
                 ("closed", "off", "saw", 5), ("closed", "off", "saw", 5, 9, 9), ("closed",), ("closed", "off", "oil", 5, 9))
        self.done(shop, ("closed", "off", "saw", 5, 1005), ("closed", "late", "saw", 1000000, 1001000),
                  ("closed", "one", "press", 1000000, 1000001))
        self.assertEqual([row[1] for row in shop.its_book()[2][4:]], [1000, 1000, 1])


class Any(Case):
    def test_what_is_no_deed(self):
        shop = Shop(job_book(), "span")
        self.done(shop, ("plan", (0, 4, 7, 5)), ("hour", 2))
        self.bad(shop, *[thing for thing in things()])
        self.bad(shop, ["hour", 5], "hour 5", ("hours", 5), ("Hour", 5), (("hour",), 5), (["hour"], 5), ({}, 5), (None,), (5, 5),
                 ("undo",), ("redo",), {"hour": 5}, ("book",), ("",))
        for word in ("plan", "hour", "length", "task", "gone", "wait", "due", "closed"):
            for many in range(6):
                for thing in (None, True, "", [], (), {}, -1, 10 ** 999, ("a",), [0], deep("list", 150), deep("tuple", 150)):
                    self.bad(shop, (word,) + (thing,) * many)

    def test_what_is_handed_in_stays(self):
        book = job_book()
        before = copy.deepcopy(book)
        shop = Shop(book, "span")
        row, plan = task("e", 2, "saw", (("oil", 1),)), (0, 4, 7, 5)
        self.done(shop, ("plan", plan), ("hour", 3), ("task", row), ("gone", 2), ("due", 0, None))
        self.assertEqual((book, row, plan), (before, task("e", 2, "saw", (("oil", 1),)), (0, 4, 7, 5)))

    def test_what_is_told_may_be_changed(self):
        shop = Shop(job_book(), "span")
        self.done(shop, ("plan", (0, 4, 7, 5)), ("hour", 5))
        before = stand(shop)
        told = shop.begun_tasks()
        told.append(5)
        told[0] = None
        best = shop.planned(5)
        best.plan = best.paper = None
        self.assertEqual(stand(shop), before)
        self.assertIsNot(shop.begun_tasks(), shop.begun_tasks())

    def test_two_shops_of_one_book(self):
        book = job_book()
        one, other = Shop(book, "span"), Shop(book, "late")
        self.done(one, ("plan", (0, 4, 7, 5)), ("hour", 5), ("gone", 2))
        self.assertEqual(stand(other), (0, book, None, []))
        self.bad(other, ("hour", 9))
        self.done(other, ("plan", (0, 4, 7, 5)), ("hour", 9))
        self.assertEqual((one.the_hour(), other.the_hour()), (5, 9))
        one.undo()
        self.assertEqual(name_of_error(other.redo), "NoDeed")


class Undone(Case):
    def test_one_behind_the_other(self):
        shop = Shop(job_book(), "span")
        deeds = [("plan", (0, 4, 7, 5)), ("hour", 2), ("length", 0, 3), ("wait", 1, 2, 0), ("due", 1, None), ("gone", 2),
                 ("task", task("e", 2)), ("closed", "off", "saw", 9, 12), ("plan", (0, 4, 5, 2, 9)), ("hour", 30)]
        stood = [stand(shop)]
        for deed in deeds:
            self.done(shop, deed)
            stood.append(stand(shop))
        for _ in range(2):
            for expected in stood[-2::-1]:
                self.assertIsNone(shop.undo())
                self.assertEqual(stand(shop), expected)
            self.assertEqual(name_of_error(shop.undo), "NoDeed")
            for expected in stood[1:]:
                self.assertIsNone(shop.redo())
                self.assertEqual(stand(shop), expected)
            self.assertEqual(name_of_error(shop.redo), "NoDeed")

    def test_a_new_deed_behind_an_undone_one(self):
        shop = Shop(job_book(), "span")
        self.done(shop, ("plan", (0, 4, 7, 5)), ("hour", 2), ("hour", 5))
        shop.undo()
        self.done(shop, ("hour", 4))
        self.assertEqual(name_of_error(shop.redo), "NoDeed")
        self.assertEqual(shop.the_hour(), 4)
        shop.undo()
        shop.undo()
        self.assertEqual(shop.the_hour(), 0)
        shop.redo()
        shop.redo()
        self.assertEqual(shop.the_hour(), 4)

    def test_a_refused_deed_forgets_nothing(self):
        shop = Shop(job_book(), "span")
        self.done(shop, ("plan", (0, 4, 7, 5)), ("hour", 2), ("hour", 5))
        shop.undo()
        self.bad(shop, ("hour", 1), None, ("gone", 9), ("plan", ()))
        shop.planned(0)
        shop.redo()
        self.assertEqual(shop.the_hour(), 5)
        self.assertEqual(name_of_error(shop.redo), "NoDeed")

    def test_two_hundred(self):
        shop = Shop(job_book(), "span")
        with within(20):
            for turn in range(50):
                self.done(shop, ("plan", (90, 94, 97, 95)), ("hour", turn + 1), ("task", task("e", 1)), ("gone", 4))
            for _ in range(200):
                shop.undo()
            self.assertEqual(name_of_error(shop.undo), "NoDeed")
            self.assertEqual(stand(shop), (0, job_book(), None, []))
            for _ in range(200):
                shop.redo()
        self.assertEqual(shop.the_hour(), 50)


def some_deed(rng, model):
    """A deed that may be one, as the shop stands."""
    hour, book, plan, _ = model.stand()
    many = len(book[2])
    number = rng.randint(0, many)
    kind = rng.choice(["plan", "plan", "hour", "length", "task", "gone", "wait", "due", "closed"])
    if kind == "plan":
        made = plan_by(book, rng.sample(range(many), many))
        return (kind, made if rng.random() < 0.9 else tuple(rng.randint(0, 30) for _ in range(many)))
    if kind == "hour":
        return (kind, hour + rng.randint(0, 5))
    if kind == "length":
        return (kind, number, rng.randint(0, 8))
    if kind == "task":
        machine = rng.choice(("",) + book[0])
        return (kind, task(rng.choice(NAMES[20:]), rng.randint(1, 4), machine, (), rng.randint(0, 9), rng.choice([None, 20])))
    if kind == "gone":
        return (kind, number)
    if kind == "wait":
        return (kind, rng.randint(0, many), number, rng.randint(0, 3))
    if kind == "due":
        return (kind, number, rng.choice([None, rng.randint(0, 40)]))
    first = hour + rng.randint(-1, 6)
    return (kind, rng.choice(NAMES[20:]), rng.choice(("", "lathe") + book[0] * 4), first, first + rng.randint(0, 4))


class Some(Case):
    def test_some_deeds(self):
        rng = random.Random(4)
        done = {}
        for book in some_books(150, 5):
            worth = rng.choice(("span", "late"))
            if not counts(book, worth):
                continue
            shop, model = Shop(book, worth), Model(book, worth)
            for _ in range(40):
                turn = rng.random()
                if turn < 0.1:
                    self.assertEqual(name_of_error(shop.undo), None if len(model.told) > 1 else "NoDeed")
                    if len(model.told) > 1:
                        model.gone.append(model.told.pop())
                elif turn < 0.2:
                    self.assertEqual(name_of_error(shop.redo), None if model.gone else "NoDeed")
                    if model.gone:
                        model.told.append(model.gone.pop())
                else:
                    deed = some_deed(rng, model)
                    is_done = model.do(deed)
                    self.assertEqual(name_of_error(shop.do, deed), None if is_done else "BadDeed", (deed, model.stand()))
                    done[(deed[0], is_done)] = done.get((deed[0], is_done), 0) + 1
                self.assertEqual(stand(shop), model.stand())
                self.assertIsNone(error_of(need_book, shop.its_book()))
        for kind in ("plan", "hour", "length", "task", "gone", "wait", "due", "closed"):
            for is_done in (True, False):
                self.assertGreater(done.get((kind, is_done), 0), 10, (kind, is_done))

    def test_the_error_of_a_book_is_not_told(self):
        shop = Shop(job_book(), "span")
        error = error_of(shop.do, ("task", task("a", 1)))
        self.assertNotIsInstance(error, BadBook)


if __name__ == "__main__":
    unittest.main()
