"""Plans of less than a goal (point 77; the interface's within.py)."""

import copy
import random
import unittest

from boundsmith.bounds import best_crowd
from boundsmith.nets import longest
from boundsmith.papers import fault_in
from boundsmith.plans import fault_of, worth_of
from boundsmith.search import best_plan
from boundsmith.within import InTime, Never, Open, in_hours
from tests.samples import (
    best_by_hand, book_of_tasks, cases_in, counts, deep, error_of, name_of_error, parts_of, plain_book, put, shop_book,
    task, things, tight_books, within)
from tests.test_search import WORTHS, gaps_book, in_turn_book, mixed_book, no_plan_book, oil_book, saw_book

FAR = 10 ** 999


class Case(unittest.TestCase):
    def held(self, book, worth, goal, most, is_none=False):
        """What is told, held against all that is promised of it."""
        told = in_hours(book, worth, goal, most)
        self.assertIn(type(told), (InTime, Never, Open))
        if isinstance(told, InTime):
            self.assertFalse(is_none)
            self.assertIs(type(told.plan), tuple)
            self.assertIsNone(fault_of(book, told.plan))
            self.assertEqual(worth_of(book, told.plan, worth), told.value)
            self.assertLess(told.value, goal)
            return told
        self.assertLessEqual(cases_in(told.paper), most)
        if isinstance(told, Open):
            self.assertIs(type(told.bound), int)
            self.assertLess(told.bound, goal)
            self.assertIsNone(fault_in(book, worth, told.bound, told.paper))
        else:
            self.assertIsNone(fault_in(book, worth, None if is_none else goal, told.paper))
        return told

    def just(self, book, worth, value):
        """Goals to the best worth are never met, greater ones are."""
        for goal in (-FAR, -5, 0, value - 500, value - 1, value):
            if goal <= value:
                self.assertIsInstance(self.held(book, worth, goal, 2000), Never)
        for goal in (value + 1, value + 2, value + 500, FAR):
            self.assertIsInstance(self.held(book, worth, goal, 2000), InTime)

    def none(self, book, worth):
        """There is no good plan at all: so it is told, whatever the goal is."""
        for goal in (-FAR, -3, 0, 1, 7, 30, 10 ** 6, 10 ** 9, 10 ** 9 + 1, FAR):
            self.assertIsInstance(self.held(book, worth, goal, 2000, True), Never)


class Refused(Case):
    def test_a_goal_that_is_none(self):
        for goal in things() + ["5", b"5", [5], (5,), {5: 5}, True, False, None]:
            is_goal = type(goal) is int
            self.assertEqual(name_of_error(in_hours, shop_book(), "span", goal, 50), None if is_goal else "BadWorth")

    def test_a_goal_ahead_of_all_else(self):
        never = no_plan_book(2)
        for goal in (None, True, "5"):
            for worth in ("span", "late", "sum", None):
                for most in (0, -1, None):
                    error = error_of(in_hours, never, worth, goal, most)
                    self.assertEqual(type(error).__name__, "BadWorth")

    def test_then_the_worth(self):
        for worth in things() + ["sum", "count", ["late"]]:
            for most in (0, -1, True, 2001):
                for goal in (5, -FAR):
                    self.assertEqual(name_of_error(in_hours, no_plan_book(2), worth, goal, most),
                                     "BadWorth" if worth != "span" else None if most == 0 and most is not False else "BadMost")
        self.assertEqual(name_of_error(in_hours, saw_book([3, 3]), "late", 5, 5), "BadWorth")

    def test_then_the_cases(self):
        for most in things() + [-1, 2001, "0", [5]]:
            is_most = type(most) is int and 0 <= most <= 2000
            for goal in (0, 9, FAR):
                for book in (shop_book(), no_plan_book(2)):
                    self.assertEqual(name_of_error(in_hours, book, "span", goal, most), None if is_most else "BadMost")


class Own(Case):
    def test_what_is_handed_in_stays(self):
        for book in [shop_book(), no_plan_book(3)] + tight_books(30, 1):
            before = copy.deepcopy(book)
            for goal in (-1, 5, 9, 100):
                for most in (0, 2, 2000):
                    error_of(in_hours, book, "span", goal, most)
            self.assertEqual(book, before)

    def test_asked_again_the_same_is_told(self):
        for book in [shop_book(), no_plan_book(3), mixed_book(9, 1)] + tight_books(60, 2):
            if counts(book, "span"):
                for goal in (5, 9, 12, 30):
                    for most in (0, 2000):
                        first, again = [in_hours(book, "span", goal, most) for _ in range(2)]
                        self.assertIs(type(first), type(again))
                        self.assertEqual(vars(first), vars(again))

    def test_fields(self):
        told = InTime((0, 3), 5)
        self.assertEqual((told.plan, told.value), ((0, 3), 5))
        self.assertEqual(Never(("way", (0,))).paper, ("way", (0,)))
        told = Open(4, ("way", (0,)))
        self.assertEqual((told.bound, told.paper), (4, ("way", (0,))))

    def test_what_they_are_made_of_is_not_kept(self):
        thing = [[1]]
        told = [InTime(thing, 0).plan, Never(thing).paper, Open(0, thing).paper]
        thing[0].append(2)
        self.assertEqual(told, [[[1]]] * 3)
        self.assertEqual(Never(deep("list", 150)).paper, deep("list", 150))


class Small(Case):
    def test_one_task(self):
        self.just(plain_book(1, length=4), "span", 4)
        self.just(saw_book([4], [3], [5]), "late", 2)
        self.just(saw_book([4], [3], [50]), "late", -43)

    def test_all_rows(self):
        for book in tight_books(250, 3):
            for worth in WORTHS:
                if counts(book, worth):
                    value = best_by_hand(book, worth)
                    self.none(book, worth) if value is None else self.just(book, worth, value)

    def test_hours_149_times_as_great(self):
        for book, great in zip(tight_books(40, 4), tight_books(40, 4, times=149)):
            if counts(book, "late"):
                value = best_by_hand(book, "late")
                self.none(great, "late") if value is None else self.just(great, "late", value * 149)

    def test_no_plan_at_all(self):
        self.none(plain_book(2, [(0, 1, 0)], [(1, 3)], length=4), "span")
        self.none(saw_book([4, 4], fixed=[(0, 3), (1, 6)]), "span")
        self.none(oil_book([4, 4, 4], [1, 1, 1], 2, fixed=[(0, 3), (1, 6), (2, 5)]), "span")
        self.none(gaps_book(3), "span")


class Few(Case):
    def test_few_cases(self):
        kinds = {}
        for book in tight_books(250, 5) + tight_books(60, 6, 5) + [gaps_book(2), gaps_book(3), gaps_book(4)]:
            for worth in WORTHS:
                if counts(book, worth):
                    value = best_by_hand(book, worth) if len(book[2]) <= 5 else None
                    for goal in (5, 20) if value is None else (value - 1, value, value + 1):
                        for most in (0, 1, 2, 5):
                            told = self.held(book, worth, goal, most, value is None)
                            kinds[type(told)] = kinds.get(type(told), 0) + 1
        for kind in (InTime, Never, Open):
            self.assertGreater(kinds[kind], 20)

    def test_no_plan_at_all_and_few_cases(self):
        book = gaps_book(4)
        wanted = cases_in(error_of(best_plan, book, "span", 2000).paper)
        for goal in (-FAR, -1, 0, 5, 14, 10 ** 9, 10 ** 9 + 1, FAR):
            for most in (0, 1, wanted - 1):
                self.assertIsInstance(self.held(book, "span", goal, most, True), Open)
            for most in (wanted, wanted + 1):
                self.assertIsInstance(self.held(book, "span", goal, most, True), Never)

    def test_goals_above_all_worths(self):
        books = [put(gaps_book(many), (2, number, 5), due) for many in (2, 3, 4) for number in range(2 * many)
                 for due in (0, 1000000)]
        for book in books:
            for most in (0, 1, 3):
                for goal in (1999999, 2000000, 2000001, 10 ** 7, 10 ** 9, FAR):
                    self.assertIsInstance(self.held(book, "late", goal, most, True), (Never, Open))

    def test_that_some_plan_is_good_wants_no_cases(self):
        # A book of which no plan is met without cases, though some are good: the net alone shows lesser goals.
        tasks = [task("a", 2, "", (("oil", 5),), 0, 1), task("b", 6, "", (("oil", 2),), 0, 19),
                 task("c", 2, "", (("oil", 3),), 0, 1), task("d", 3)]
        book = book_of_tasks(tasks, (), (("oil", 5),), [(3, 0, 0), (0, 2, 0)], [(2, 7)])
        best = best_plan(book, "span", 0)
        self.assertEqual((best.plan, best.bound, best_by_hand(book, "span")), (None, 9, 11))
        for goal in (-FAR, 0, 8, 9):
            self.assertIsInstance(self.held(book, "span", goal, 0), Never)
        self.assertIsInstance(self.held(book, "span", 12, 0), InTime)

    def test_what_is_shown_without_cases(self):
        for book in tight_books(200, 8) + tight_books(100, 9, 5):
            for worth in WORTHS:
                if counts(book, worth) and best_by_hand(book, worth) is not None:
                    bound = best_plan(book, worth, 0).bound
                    for goal in (bound, bound - 1):
                        self.assertIsInstance(self.held(book, worth, goal, 0), Never)

    def test_what_the_net_shows_wants_no_cases(self):
        for book in tight_books(100, 7):
            if counts(book, "span") and best_by_hand(book, "span") is not None:
                bound = longest(book, [], "span")[0]
                crowds = [best_crowd(book, [], "span", machine) for machine in book[0]]
                bound = max([bound] + [crowd[0] for crowd in crowds if crowd is not None])
                told = self.held(book, "span", bound, 0)
                self.assertIsInstance(told, Never)
                self.assertEqual(cases_in(told.paper), 0)


class Great(Case):
    def test_the_greatest_searches(self):
        rng = random.Random(2)
        with within(60):
            for many in range(7, 11):
                self.just(in_turn_book(many), "span", 3 * many + 1)
                self.none(no_plan_book(many), "span")
            for goal in (44, 45, 46, 50, 51):
                self.held(oil_book([10] * 9, [1] * 9, 2), "span", goal, 2000)
            lengths, dues = [rng.randint(1, 9) for _ in range(14)], [rng.randint(10, 70) for _ in range(14)]
            book = oil_book(lengths, [1] * 14, 1, [rng.randint(0, 40) for _ in range(14)], dues)
            best = best_plan(book, "late", 2000)
            for goal in range(best.bound - 1, best.value + 2):
                self.held(book, "late", goal, 2000)

    def test_as_many_as_a_book_may_have(self):
        with within(60):
            book = mixed_book(30, 1)
            best = best_plan(book, "span", 2000)
            for goal in (best.bound, best.bound + 1, best.value, best.value + 1):
                told = self.held(book, "span", goal, 2000)
                if not isinstance(told, InTime):
                    self.assertLessEqual(len(parts_of(told.paper)), 2000)


if __name__ == "__main__":
    unittest.main()
