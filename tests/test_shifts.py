"""Closed hours (point 98; the interface's shifts.py)."""

import copy
import random
import unittest

from boundsmith.books import need_book
from boundsmith.plans import fault_of, worth_of
from boundsmith.search import best_plan
from boundsmith.shifts import closings, shut_book, shut_plan
from tests.samples import (
    NAMES, best_by_hand, book_of_tasks, counts, error_of, name_of_error, plain_book, shop_book, task, things, tight_books,
    within)

BOOK = shop_book()


def many_book(many, machines=("saw", "press")):
    return book_of_tasks([task(NAMES[k]) for k in range(many)], machines)


def hours_by_hand(weeks, machine):
    """All hours in which a machine is closed."""
    return {hour + turn * every for one, first, behind, every, many in weeks if one == machine
            for turn in range(many) for hour in range(first, behind)}


def closings_by_hand(book, weeks):
    told = []
    for machine in book[0]:
        hours = hours_by_hand(weeks, machine)
        firsts = sorted(hour for hour in hours if hour - 1 not in hours)
        behinds = sorted(hour + 1 for hour in hours if hour + 1 not in hours)
        told.extend((machine, first, behind) for first, behind in zip(firsts, behinds))
    return told


def some_weeks(rng, machines):
    weeks = []
    for _ in range(rng.randint(0, 4)):
        first = rng.randint(0, 30)
        weeks.append((rng.choice(machines), first, first + rng.randint(1, 6), rng.randint(1, 9), rng.randint(1, 3)))
    return weeks


class Case(unittest.TestCase):
    def refused(self, name, book, weeks, plan=(0, 6, 7, 8), calls=(closings, shut_book, shut_plan)):
        for call in calls:
            told = (book, weeks, plan) if call is shut_plan else (book, weeks)
            self.assertEqual(name_of_error(call, *told), name, (call.__name__, str(weeks)[:80]))


class Refused(Case):
    def test_the_book_first(self):
        bad = [thing for thing in things()] + [(), many_book(31), BOOK[:4], put_name(BOOK, "saw"), list(BOOK)]
        for book in bad:
            for weeks in ([], None, [("saw", 0, 1, 1, 1)], [("lathe", 0, 1, 1, 1)]):
                self.refused("BadBook", book, weeks, None)
        self.assertEqual(error_of(closings, (("saw", "saw"), (), (task(),), (), ()), []).what, "twice")
        self.assertEqual(error_of(shut_book, 5, 5).what, "form")
        self.assertEqual(error_of(shut_plan, plain_book(2, [(0, 1, 0), (1, 0, 0)]), 5, 5).what, "ring")

    def test_what_are_no_weeks(self):
        week = ("saw", 3, 9, 24, 5)
        self.refused(None, BOOK, [])
        for thing in things():
            if thing != []:
                self.refused("BadRows", BOOK, thing)
            self.refused("BadRows", BOOK, [thing])
            self.refused("BadRows", BOOK, [("saw", 3, 9, 24, 1), thing])
        self.refused("BadRows", BOOK, (week,))
        self.refused("BadRows", BOOK, [list(week)])
        self.refused("BadRows", BOOK, [week[:4]])
        self.refused("BadRows", BOOK, [week + (1,)])

    def test_each_part_of_a_week(self):
        week = ("saw", 3, 9, 24, 2)
        self.refused(None, BOOK, [week])
        bad = {
            0: ["", "lathe", "Saw", "oil", None, 0, ["saw"], ("saw",), {}, "-", True],
            1: [-1, 9, 10, 1000000, 1000001, None, "3", True, [3], 10 ** 999],
            2: [3, 2, 0, -1, 1000001, None, "9", True, [9], 10 ** 999],
            3: [0, -1, 1000001, None, "24", True, [24], 10 ** 999],
            4: [0, -1, 31, None, "2", True, [2], 10 ** 999],
        }
        for part, some in bad.items():
            for thing in some:
                self.refused("BadRows", BOOK, [week[:part] + (thing,) + week[part + 1:]])
        for good in (("saw", 0, 1, 1, 1), ("saw", 999999, 1000000, 1, 1), ("press", 0, 1, 1000000, 2), ("saw", 0, 9, 1, 30)):
            self.refused(None, BOOK, [good], calls=(closings,))

    def test_thirty_weeks_and_one_more(self):
        week = ("saw", 3, 9, 24, 1)
        self.refused(None, BOOK, [week] * 30)
        self.refused("BadRows", BOOK, [week] * 31)

    def test_then_the_plan(self):
        for plan in things() + [(0, 6, 7), (0, 6, 7, 8, 9), [0, 6, 7, 8], (0, 6, 7, -1), (0, 6, 7, True), (0, 6, 7, 10 ** 9 + 1)]:
            self.refused("BadPlan", BOOK, [("saw", 3, 9, 24, 2)], plan, (shut_plan,))
            self.refused("BadRows", BOOK, [("lathe", 3, 9, 24, 2)], plan, (shut_plan,))
            self.refused("BadRows", BOOK, [("saw", 0, 1, 2, 27)], plan, (shut_plan,))
        self.refused(None, BOOK, [("saw", 3, 9, 24, 2)], (9, 9, 9, 10 ** 9), (shut_plan,))


def put_name(book, name):
    return (book[0] + (name,),) + book[1:]


class Closings(Case):
    def told(self, expected, *weeks):
        self.assertEqual(closings(BOOK, list(weeks)), expected)

    def test_apart_touching_and_meeting(self):
        self.told([])
        self.told([("saw", 3, 9)], ("saw", 3, 9, 1000000, 1))
        self.told([("saw", 3, 5), ("saw", 6, 9)], ("saw", 3, 5, 9, 1), ("saw", 6, 9, 9, 1))
        self.told([("saw", 3, 9)], ("saw", 3, 6, 9, 1), ("saw", 6, 9, 9, 1))
        self.told([("saw", 3, 9)], ("saw", 3, 8, 9, 1), ("saw", 5, 9, 9, 1))
        self.told([("saw", 3, 9)], ("saw", 5, 7, 9, 1), ("saw", 3, 9, 9, 1))
        self.told([("saw", 3, 9)], ("saw", 5, 9, 9, 1), ("saw", 3, 8, 9, 1), ("saw", 3, 8, 9, 1))

    def test_again_and_again(self):
        self.told([("saw", 3, 5), ("saw", 10, 12), ("saw", 17, 19)], ("saw", 3, 5, 7, 3))
        self.told([("saw", 3, 9)], ("saw", 3, 5, 2, 3))
        self.told([("saw", 3, 7)], ("saw", 3, 5, 1, 3))
        self.told([("saw", 3, 5), ("saw", 6, 8), ("saw", 9, 11)], ("saw", 3, 5, 3, 3))
        self.told([("saw", 0, 1), ("saw", 1000000, 1000001), ("saw", 2000000, 2000001)], ("saw", 0, 1, 1000000, 3))
        self.told([("saw", 0, 30000000)], ("saw", 0, 1000000, 1000000, 30))

    def test_by_machines(self):
        self.told([("saw", 1, 2), ("saw", 5, 6), ("press", 0, 5)],
                  ("press", 0, 5, 1, 1), ("saw", 5, 6, 9, 1), ("saw", 1, 2, 9, 1))
        self.told([("saw", 0, 5), ("press", 5, 9)], ("press", 5, 9, 1, 1), ("saw", 0, 5, 9, 1))
        machines = ("press", "saw")
        self.assertEqual(closings(many_book(1, machines), [("saw", 1, 2, 1, 1), ("press", 1, 2, 1, 1)]),
                         [("press", 1, 2), ("saw", 1, 2)])

    def test_some_weeks(self):
        rng = random.Random(1)
        for _ in range(400):
            weeks = some_weeks(rng, ("saw", "press"))
            self.assertEqual(closings(BOOK, weeks), closings_by_hand(BOOK, weeks))

    def test_thirty_weeks_of_thirty_times(self):
        weeks = [("saw", 40 * k, 40 * k + 1, 1250 * (k % 2) + 7, 30) for k in range(30)]
        with within(20):
            self.assertEqual(closings(BOOK, weeks), closings_by_hand(BOOK, weeks))
            self.assertEqual(closings(BOOK, [("saw", 2 * k, 2 * k + 1, 60, 30) for k in range(30)]),
                             [("saw", 2 * k, 2 * k + 1) for k in range(900)])
            far = [("saw", 0, 1000000, 1000000, 30)] * 30
            self.assertEqual(name_of_error(shut_book, BOOK, far), "BadRows")


class Shut(Case):
    def test_tasks_behind_its_own(self):
        weeks = [("press", 2, 5, 10, 2), ("saw", 7, 8, 1, 1)]
        shut = shut_book(BOOK, weeks)
        more = (("aa", 1, "saw", (), 7, None, 0), ("ab", 3, "press", (), 2, None, 0), ("ac", 3, "press", (), 12, None, 0))
        self.assertEqual(shut, (BOOK[0], BOOK[1], BOOK[2] + more, BOOK[3], BOOK[4] + ((4, 7), (5, 2), (6, 12))))
        self.assertEqual(shut_plan(BOOK, weeks, (0, 6, 7, 8)), (0, 6, 7, 8, 7, 2, 12))
        self.assertEqual(shut_book(BOOK, []), BOOK)
        self.assertEqual(shut_plan(BOOK, [], (0, 6, 7, 8)), (0, 6, 7, 8))

    def test_thousands_of_hours(self):
        for hours, lengths in ((999, [999]), (1000, [1000]), (1001, [1000, 1]), (2000, [1000, 1000]), (2001, [1000, 1000, 1]),
                               (3000, [1000] * 3), (3001, [1000] * 3 + [1])):
            shut = shut_book(BOOK, [("saw", 50, 50 + hours, 1, 1)])
            self.assertEqual([row[1] for row in shut[2][4:]], lengths)
            self.assertEqual([row[4] for row in shut[2][4:]], [50 + 1000 * k for k in range(len(lengths))])
            self.assertEqual([begin for _, begin in shut[4][1:]], [50 + 1000 * k for k in range(len(lengths))])
        shut = shut_book(BOOK, [("saw", 0, 600, 1, 1), ("saw", 600, 1200, 1, 1)])
        self.assertEqual([row[1] for row in shut[2][4:]], [1000, 200])

    def test_names(self):
        book = book_of_tasks([task("ab"), task("aa"), task("ad"), task("a"), task("aaa")], ("saw",))
        shut = shut_book(book, [("saw", 2 * k, 2 * k + 1, 1, 1) for k in range(25)])
        self.assertEqual([row[0] for row in shut[2][5:9]], ["ac", "ae", "af", "ag"])
        self.assertEqual(shut[2][29][0], "bb")
        book = book_of_tasks([task("a" + sign) for sign in "abcdefghijklmnopqrstuvwxyz"], ("saw",))
        self.assertEqual([row[0] for row in shut_book(book, [("saw", 0, 1, 2, 3)])[2][26:]], ["ba", "bb", "bc"])

    def test_shut_once_more(self):
        shut = shut_book(BOOK, [("saw", 50, 60, 1, 1)])
        again = shut_book(shut, [("saw", 70, 80, 1, 1), ("press", 3, 4, 1, 1)])
        self.assertEqual(again[2][4:], (("aa", 10, "saw", (), 50, None, 0), ("ab", 10, "saw", (), 70, None, 0),
                                        ("ac", 1, "press", (), 3, None, 0)))
        self.assertEqual(again[4], BOOK[4] + ((4, 50), (5, 70), (6, 3)))
        self.assertIsNone(name_of_error(need_book, again))

    def test_thirty_tasks_and_one_more(self):
        for many in (1, 4, 29):
            weeks = [("saw", 0, 1, 2, 30 - many)]
            self.assertEqual(len(shut_book(many_book(many), weeks)[2]), 30)
            self.refused("BadRows", many_book(many), weeks + [("press", 9, 10, 1, 1)], (0,) * many, (shut_book, shut_plan))
            self.refused(None, many_book(many), weeks + [("press", 9, 10, 1, 1)], calls=(closings,))
        self.refused("BadRows", many_book(30), [("saw", 0, 1, 1, 1)], (0,) * 30, (shut_book, shut_plan))
        self.refused(None, many_book(30), [], (0,) * 30)
        self.assertEqual(len(shut_book(many_book(1), [("saw", 0, 29000, 1, 1)])[2]), 30)
        self.refused("BadRows", many_book(1), [("saw", 0, 29001, 1, 1)], (0,), (shut_book, shut_plan))
        self.refused("BadRows", many_book(1), [("saw", 0, 1000000, 1, 1)], (0,), (shut_book, shut_plan))

    def test_a_begin_of_a_million_and_one_more(self):
        book = many_book(1)
        shut = shut_book(book, [("saw", 0, 1, 1000000, 2)])
        self.assertEqual(shut[4], ((1, 0), (2, 1000000)))
        self.assertIsNone(name_of_error(need_book, shut))
        self.refused("BadRows", book, [("saw", 1, 2, 1000000, 2)], (0,), (shut_book, shut_plan))
        self.refused(None, book, [("saw", 1, 2, 1000000, 2)], calls=(closings,))
        self.assertEqual(shut_book(book, [("saw", 999990, 1000000, 10, 2)])[2][1][1], 20)
        self.assertEqual(shut_book(book, [("saw", 999000, 1000000, 1000, 2)])[4], ((1, 999000), (2, 1000000)))
        self.refused("BadRows", book, [("saw", 999001, 1000000, 999, 3)], (0,), (shut_book, shut_plan))

    def test_it_is_let_by(self):
        rng = random.Random(2)
        for book in tight_books(150, 3):
            weeks = some_weeks(rng, book[0]) if book[0] else []
            shut = shut_book(book, weeks)
            self.assertIsNone(name_of_error(need_book, shut))
            self.assertEqual(len(shut[2]) - len(book[2]), len(closings(book, weeks)))


class Plans(Case):
    def test_plans_that_keep_off(self):
        rng = random.Random(3)
        kept = {True: 0, False: 0}
        for book in tight_books(150, 4):
            if not book[0]:
                continue
            weeks = some_weeks(rng, book[0])
            shut = shut_book(book, weeks)
            closed = {machine: hours_by_hand(weeks, machine) for machine in book[0]}
            for _ in range(20):
                plan = tuple(rng.randint(0, 30) for _ in book[2])
                try:
                    plan = best_plan(book, "span", rng.randint(0, 3)).plan or plan
                except ValueError:
                    pass
                plan = tuple(begin + rng.choice([0, 0, 0, 30]) for begin in plan)
                if fault_of(book, plan) is not None:
                    continue
                is_off = not any(hour in closed.get(row[2], ()) for begin, row in zip(plan, book[2])
                                 for hour in range(begin, begin + row[1]))
                told = shut_plan(book, weeks, plan)
                self.assertEqual(fault_of(shut, told) is None, is_off)
                kept[is_off] += 1
                for worth in ("span", "late"):
                    self.assertEqual(worth_of(shut, told, worth), worth_of(book, plan, worth))
        self.assertGreater(min(kept.values()), 20)

    def test_best_plans(self):
        rng = random.Random(5)
        for book in tight_books(60, 6, 3):
            if book[0] and counts(book, "span"):
                shut = shut_book(book, some_weeks(rng, book[0]))
                value = best_by_hand(shut, "span")
                told = error_of(best_plan, shut, "span", 2000)
                if value is None:
                    self.assertEqual(type(told).__name__, "NoPlan")
                else:
                    self.assertEqual(best_plan(shut, "span", 2000).value, value)


class Own(Case):
    def test_what_is_handed_in_stays(self):
        weeks = [("press", 2, 5, 10, 2), ("saw", 7, 8, 1, 1)]
        before = copy.deepcopy((BOOK, weeks))
        closings(BOOK, weeks).append(5)
        shut_book(BOOK, weeks)
        shut_plan(BOOK, weeks, (0, 6, 7, 8))
        self.assertEqual((BOOK, weeks), before)
        self.assertEqual(closings(BOOK, weeks), [("saw", 7, 8), ("press", 2, 5), ("press", 12, 15)])

    def test_kinds(self):
        weeks = [("press", 2, 5, 10, 2)]
        self.assertEqual([type(part) for part in closings(BOOK, weeks)], [tuple, tuple])
        self.assertEqual([type(part) for part in shut_book(BOOK, weeks)], [tuple] * 5)
        self.assertIs(type(shut_plan(BOOK, weeks, (0, 6, 7, 8))), tuple)


if __name__ == "__main__":
    unittest.main()
