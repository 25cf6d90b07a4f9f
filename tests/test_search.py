"""Best plans (points 75 and 76; the interface's search.py)."""

import copy
import random
import time
import unittest

from boundsmith.bounds import best_crowd
from boundsmith.errors import NoPlan
from boundsmith.nets import longest
from boundsmith.papers import fault_in, shows
from boundsmith.plans import fault_of, worth_of
from boundsmith.search import Best, best_plan
from tests.samples import (
    NAMES, best_by_hand, book_of_tasks, cases_in, counts, deep, error_of, name_of_error, parts_of, plain_book, shop_book,
    some_needs, some_pairs, task, things, tight_books, within)

WORTHS = ("span", "late")


def saw_book(lengths, starts=None, dues=None, more=(), **rest):
    """Tasks of one machine."""
    many = len(lengths)
    starts, dues = starts or [0] * many, dues or [None] * many
    tasks = [task(NAMES[k], lengths[k], "saw", (), starts[k], dues[k]) for k in range(many)]
    return book_of_tasks(tasks + list(more), ("saw",), **rest)


def oil_book(lengths, needs, there, starts=None, dues=None, **rest):
    """Tasks that need a good."""
    many = len(lengths)
    starts, dues = starts or [0] * many, dues or [None] * many
    tasks = [task(NAMES[k], lengths[k], "", (("oil", needs[k]),), starts[k], dues[k]) for k in range(many)]
    return book_of_tasks(tasks, (), (("oil", there),), **rest)


def in_turn_book(many, length=3):
    """Alike tasks of one machine, each with one behind it that is fixed: so each has to end in its turn."""
    markers = [task(NAMES[30 - k], 1, weight=1) for k in range(many)]
    waits = [(k, many + k, 0) for k in range(many)]
    fixed = [(many + k, (k + 1) * length) for k in range(many)]
    return saw_book([length] * many, more=markers, waits=waits, fixed=fixed)


def no_plan_book(many):
    """Tasks of one machine that have to end an hour too soon, all of them."""
    waits = [(k, many, 0) for k in range(many)]
    return saw_book([3] * many, more=[task("last", 1)], waits=waits, fixed=[(many, 3 * many - 1)])


def gaps_book(many):
    """Tasks of one machine that have to end in gaps between fixed ones, of which each is too short for one more."""
    fixed = [(many + k, 4 * k + 3) for k in range(many - 1)]
    markers = [task(NAMES[20 + k], 1, "saw") for k in range(many - 1)] + [task("last", 1)]
    waits = [(k, 2 * many - 1, 0) for k in range(many)]
    return saw_book([2] * many, more=markers, waits=waits, fixed=fixed + [(2 * many - 1, 4 * many - 5)])


def mixed_book(many, seed):
    rng = random.Random(seed)
    goods = (("oil", 4), ("crew", 3))
    tasks = [task(NAMES[k], rng.randint(1, 9), rng.choice(["", "saw", "press"]), some_needs(rng, goods),
                  rng.choice([0, 0, 5]), rng.randint(10, 80)) for k in range(many)]
    waits = [(a, b, rng.randint(0, 3)) for a, b in some_pairs(rng, many, many - 5)]
    return book_of_tasks(tasks, ("saw", "press"), goods, waits)


def deep_book(many, seed, last):
    """Tasks that need one good, one at a time, with hours and BYs by chance: papers for it lie deep in others."""
    rng = random.Random(seed)
    tasks = [task(NAMES[k], rng.randint(1, 9), "", (("oil", 1),), rng.randint(0, last), rng.randint(10, last + 40))
             for k in range(many)]
    return book_of_tasks(tasks, (), (("oil", 1),))


def last_hour(book):
    """The hour above which no told plan begins a task."""
    tasks = book[2]
    first = max([row[4] for row in tasks] + [begin for _, begin in book[4]])
    return first + sum(row[1] for row in tasks) + sum(gap for _, _, gap in book[3])


class Case(unittest.TestCase):
    def held(self, book, worth, most):
        """What is told, held against all that is promised of it; the error where there is no good plan."""
        try:
            best = best_plan(book, worth, most)
        except NoPlan as never:
            self.assertIsNone(fault_in(book, worth, None, never.paper))
            self.assertLessEqual(cases_in(never.paper), most)
            return never
        self.assertIs(type(best), Best)
        parts = parts_of(best.paper)
        deepest = max(len(path) for path, _ in parts)
        self.assertEqual([type(thing) for thing in (best.bound, best.paper, best.cases)], [int, tuple, int])
        self.assertIsNone(fault_in(book, worth, best.bound, best.paper))
        self.assertLessEqual(len(parts), 2000)
        self.assertLess(deepest, 60)
        self.assertEqual(best.cases, cases_in(best.paper))
        self.assertLessEqual(best.cases, most)
        if best.cases < most and len(parts) <= 1100 and deepest < 58:
            self.assertEqual(best.bound, best.value)
        if best.plan is None:
            self.assertIsNone(best.value)
            return best
        self.assertIs(type(best.plan), tuple)
        self.assertIsNone(fault_of(book, best.plan))
        self.assertEqual(worth_of(book, best.plan, worth), best.value)
        self.assertLessEqual(best.bound, best.value)
        self.assertLessEqual(max(best.plan), last_hour(book))
        return best

    def just(self, book, worth, value):
        """The book's best worth is found and shown, with the cases that are wanted, one more and many more."""
        best = self.held(book, worth, 2000)
        self.assertEqual((best.value, best.bound), (value, value))
        if len(book[2]) <= 4:
            self.assertLess(best.cases, 2000)
            self.small(best.paper)
        for most in (best.cases, best.cases + 1):
            again = self.held(book, worth, most)
            self.assertEqual((again.value, again.bound, again.cases), (value, value, best.cases))
        return best

    def none(self, book, worth):
        """There is no good plan, and that is shown."""
        never = self.held(book, worth, 2000)
        self.assertIsInstance(never, NoPlan)
        if len(book[2]) <= 4:
            self.small(never.paper)
        return never

    def small(self, paper):
        """What is promised of papers for up to four tasks."""
        parts = parts_of(paper)
        self.assertLessEqual(len(parts), 300)
        self.assertLess(max(len(path) for path, _ in parts), 50)
        for _, part in parts:
            if part[0] == "cases":
                self.assertEqual(len(part[2]), len(part[1]) * (len(part[1]) - 1))


class Refused(Case):
    def test_what_is_no_worth(self):
        for worth in things() + ["sum", "count", "Span", "late ", ["span"], ("late",), b"span"]:
            for most in (0, 2000):
                self.assertEqual(name_of_error(best_plan, shop_book(), worth, most), None if worth in WORTHS else "BadWorth")

    def test_what_counts_nothing(self):
        light = saw_book([3, 3])
        light = light[:2] + (tuple(row[:6] + (0,) for row in light[2]),) + light[3:]
        self.assertEqual(name_of_error(best_plan, light, "span", 5), "BadWorth")
        self.assertEqual(name_of_error(best_plan, saw_book([3, 3]), "late", 5), "BadWorth")
        self.assertIsNone(name_of_error(best_plan, saw_book([3, 3], dues=[None, 0]), "late", 5))

    def test_what_is_no_number_of_cases(self):
        for most in things() + [-1, 2001, "0", "2000", [5], (5,), {5: 5}, -2000, 10 ** 6, None, b"5"]:
            is_most = type(most) is int and 0 <= most <= 2000
            self.assertEqual(name_of_error(best_plan, shop_book(), "span", most), None if is_most else "BadMost")
        for most in (0, 1, 1999, 2000):
            self.assertIsNone(name_of_error(best_plan, shop_book(), "late", most))

    def test_several_at_once(self):
        never = no_plan_book(2)
        for worth in ("sum", None, [], "late"):
            for most in (-1, 2001, True, "5", None):
                self.assertEqual(name_of_error(best_plan, never, worth, most), "BadWorth")
        for most in (-1, 2001, True, "5", None):
            self.assertEqual(name_of_error(best_plan, never, "span", most), "BadMost")
        self.assertEqual(name_of_error(best_plan, never, "span", 5), "NoPlan")


class Own(Case):
    def test_what_is_handed_in_stays(self):
        for book in [shop_book(), no_plan_book(3)] + tight_books(40, 1):
            before = copy.deepcopy(book)
            for worth in WORTHS:
                for most in (0, 3, 2000):
                    error_of(best_plan, book, worth, most)
            self.assertEqual(book, before)

    def test_asked_again_the_same_is_told(self):
        for book in [shop_book(), mixed_book(9, 1)] + tight_books(60, 2):
            for most in (0, 1, 2000):
                try:
                    first = best_plan(book, "span", most)
                    first_told = (first.plan, first.value, first.bound, first.paper, first.cases)
                    first.plan = first.value = first.bound = first.paper = first.cases = "changed"
                    again = best_plan(book, "span", most)
                except ValueError as error:
                    again = error_of(best_plan, book, "span", most)
                    self.assertEqual(type(error), type(again))
                    self.assertEqual(getattr(error, "paper", None), getattr(again, "paper", None))
                    continue
                self.assertEqual((again.plan, again.value, again.bound, again.paper, again.cases), first_told)

    def test_fields(self):
        best = Best((0, 3), 5, 4, ("way", (0,)), 0)
        self.assertEqual((best.plan, best.value, best.bound, best.paper, best.cases), ((0, 3), 5, 4, ("way", (0,)), 0))
        best = Best(None, None, 4, ("way", (0,)), 0)
        self.assertEqual((best.plan, best.value), (None, None))

    def test_what_it_is_made_of_is_not_kept(self):
        plan, paper = [1, 2], ["way", [0]]
        best = Best(plan, 5, 4, paper, 0)
        plan.append(3)
        paper[1].append(1)
        self.assertEqual((best.plan, best.paper), ([1, 2], ["way", [0]]))
        self.assertEqual(Best(deep("list", 150), 0, 0, deep("tuple", 150), 0).plan, deep("list", 150))


class Small(Case):
    def test_one_task(self):
        for length, start, due in ((1, 0, 0), (1000, 1000000, 1000000), (7, 3, None)):
            book = book_of_tasks([task("a", length, "", (), start, due)])
            self.just(book, "span", start + length)
            if due is not None:
                self.just(book, "late", start + length - due)
        self.assertEqual(best_plan(book_of_tasks([task("a", 4, start=2)]), "span", 0).paper, ("way", (0,)))

    def test_two_that_go_ahead_of_each_other(self):
        self.just(saw_book([4, 3]), "span", 7)
        self.just(saw_book([4, 3], dues=[5, 3]), "late", 2)
        self.just(saw_book([4, 3], [1, 0]), "span", 7)
        self.just(saw_book([4, 3], [1, 0], [4, 9]), "late", 1)
        self.just(plain_book(2, length=4), "span", 4)

    def test_waits_that_chain(self):
        self.just(plain_book(4, [(0, 1, 2), (1, 2, 0), (2, 3, 5)], length=3), "span", 19)
        self.just(saw_book([2, 3, 4], waits=[(2, 0, 5), (0, 1, 1)]), "span", 15)
        self.just(saw_book([2, 3, 4], waits=[(2, 0, 3)]), "span", 9)
        self.just(saw_book([2, 3, 4], waits=[(2, 0, 0), (2, 0, 7)], dues=[3, None, None]), "late", 10)

    def test_fixed_tasks(self):
        self.just(saw_book([2, 3, 4], fixed=[(0, 3)]), "span", 9)
        self.just(saw_book([2, 3, 4], fixed=[(0, 2)]), "span", 11)
        self.just(saw_book([2, 3], fixed=[(0, 50)]), "span", 52)
        self.just(saw_book([2, 3], fixed=[(0, 3), (1, 0)]), "span", 5)

    def test_a_fixed_one_that_can_not_begin_when_it_has_to(self):
        self.none(plain_book(2, [(0, 1, 0)], [(1, 3)], length=4), "span")
        self.assertEqual(best_plan(plain_book(2, [(0, 1, 0)], [(1, 4)], length=4), "span", 0).value, 8)
        self.none(plain_book(3, [(0, 1, 2), (1, 2, 0)], [(2, 9)], length=4), "span")
        self.none(no_plan_book(3), "span")
        never = error_of(best_plan, plain_book(2, [(0, 1, 0)], [(1, 3)], length=4), "span", 0)
        self.assertEqual(never.paper, ("fixed", (0, 1)))

    def test_two_fixed_beside_one_another(self):
        self.none(saw_book([4, 4], fixed=[(0, 3), (1, 6)]), "span")
        self.none(saw_book([4, 4], fixed=[(1, 3), (0, 3)]), "span")
        self.just(saw_book([4, 4], fixed=[(0, 3), (1, 7)]), "span", 11)
        self.none(oil_book([4, 4], [2, 2], 3, fixed=[(0, 3), (1, 6)]), "span")
        self.just(oil_book([4, 4], [2, 2], 4, fixed=[(0, 3), (1, 6)]), "span", 10)
        self.none(oil_book([4, 4, 4], [1, 1, 1], 2, fixed=[(0, 3), (1, 6), (2, 5)]), "span")

    def test_no_plan_though_nothing_is_wanted_at_once(self):
        self.none(plain_book(2, [(0, 1, 0)], [(0, 5), (1, 8)], length=4), "span")
        self.just(plain_book(2, [(0, 1, 0)], [(0, 5), (1, 9)], length=4), "span", 13)

    def test_goods_of_which_more_than_one_is_needed(self):
        self.just(oil_book([3, 3, 3], [2, 2, 2], 4), "span", 6)
        self.just(oil_book([3, 3, 3], [2, 2, 2], 6), "span", 3)
        self.just(oil_book([3, 4, 5, 2], [3, 2, 2, 1], 4), "span", 8)
        self.just(oil_book([1, 1, 1, 1], [99, 99, 1, 1], 99), "span", 3)
        self.just(oil_book([3, 3, 3, 3], [1, 1, 1, 1], 3), "span", 6)
        self.just(oil_book([5, 4, 3, 3], [1, 1, 1, 1], 2), "span", 8)

    def test_all_rows(self):
        for book in tight_books(1500, 3):
            for worth in WORTHS:
                if counts(book, worth):
                    value = best_by_hand(book, worth)
                    if value is None:
                        self.none(book, worth)
                    else:
                        self.just(book, worth, value)

    def test_all_rows_of_five(self):
        for book in tight_books(150, 4, 5):
            for worth in WORTHS:
                if counts(book, worth):
                    value = best_by_hand(book, worth)
                    self.none(book, worth) if value is None else self.just(book, worth, value)

    def test_hours_149_times_as_great(self):
        for book, great in zip(tight_books(200, 5), tight_books(200, 5, times=149)):
            for worth in WORTHS:
                if counts(book, worth):
                    value = best_by_hand(book, worth)
                    self.none(great, worth) if value is None else self.just(great, worth, value * 149)

    def test_late_hours(self):
        tasks = [task(NAMES[k], 1000, "saw", (), 1000000, 1000000 - k) for k in range(4)]
        self.just(book_of_tasks(tasks, ("saw",)), "span", 1004000)
        self.just(book_of_tasks(tasks, ("saw",)), "late", 4000)


class Few(Case):
    def test_each_number_of_cases(self):
        wanted = []
        for book in tight_books(400, 6) + tight_books(60, 7, 5):
            for worth in WORTHS:
                if not counts(book, worth):
                    continue
                best = self.held(book, worth, 2000)
                if isinstance(best, NoPlan):
                    for most in range(6):
                        self.held(book, worth, most)
                    continue
                wanted.append(best.cases)
                for most in {0, 1, 2, max(best.cases - 1, 0), best.cases, best.cases + 1, 1999}:
                    told = self.held(book, worth, most)
                    # A search that ran out of cases has just as many.
                    self.assertEqual(told.cases, min(most, best.cases))
                    self.assertLessEqual(told.bound, best.value)
                    if most > best.cases:
                        self.assertEqual((told.value, told.bound), (best.value, best.value))
        self.assertGreater(max(wanted), 3)
        self.assertGreater(len([many for many in wanted if many > 0]), 20)

    def test_no_cases_at_all(self):
        # A book in which cases are wanted, as no way and no crowd shows its best span.
        book = oil_book([5, 4, 3, 3, 2, 2, 2], [1] * 7, 2, starts=[0, 1, 2, 0, 1, 3, 0])
        full = self.held(book, "span", 2000)
        bounds = [self.held(book, "span", most).bound for most in range(0, full.cases + 2)]
        self.assertEqual(bounds[-1], full.value)
        self.assertGreaterEqual(bounds[0], longest(book, [], "span")[0])

    def test_no_plan_and_few_cases(self):
        wanted = 0
        for book in tight_books(300, 8) + [gaps_book(many) for many in (2, 3, 4)]:
            if counts(book, "span") and best_by_hand(book, "span") is None:
                never = self.none(book, "span")
                many = cases_in(never.paper)
                wanted = max(wanted, many)
                for most in range(many):
                    told = self.held(book, "span", most)
                    self.assertIs(type(told), Best)
                    self.assertEqual((told.plan, told.value, told.cases), (None, None, most))
                self.assertIsInstance(self.held(book, "span", many), NoPlan)
        self.assertGreater(wanted, 1)

    def test_a_bound_is_no_worse_than_the_net_s(self):
        for book in tight_books(100, 9):
            if counts(book, "span"):
                best = self.held(book, "span", 0)
                if isinstance(best, Best):
                    self.assertGreaterEqual(best.bound, longest(book, [], "span")[0])
                    for machine in book[0]:
                        crowd = best_crowd(book, [], "span", machine)
                        self.assertTrue(crowd is None or best.bound >= crowd[0])


class Great(Case):
    def test_alike_tasks_that_end_in_their_turn(self):
        for many in range(7, 11):
            with within(20):
                dues = [3 * (k + 1) for k in range(many)]
                self.just(saw_book([3] * many, dues=dues), "late", 0)
                self.just(saw_book([3] * many, dues=dues[::-1]), "late", 0)
                self.just(saw_book([3] * many, [3 * k for k in range(many)], dues), "late", 0)
                self.just(in_turn_book(many), "span", 3 * many + 1)
                self.none(no_plan_book(many), "span")

    def test_nine_alike_of_which_two_may_run(self):
        for length in (1, 2, 5, 149):
            with within(20):
                best = self.held(oil_book([length] * 9, [1] * 9, 2), "span", 2000)
            self.assertEqual(best.value, 5 * length)
            self.assertGreaterEqual(best.bound, (9 * length + 1) // 2)
            dues = [length * (k // 2 + 1) for k in range(9)]
            self.just(oil_book([length] * 9, [1] * 9, 2, dues=dues), "late", 0)

    def test_fourteen_one_at_a_time_by_a_good(self):
        rng = random.Random(1)
        for _ in range(6):
            lengths = [rng.randint(1, 9) for _ in range(14)]
            starts = [rng.randint(0, 40) for _ in range(14)]
            dues = [rng.randint(10, 70) for _ in range(14)]
            with within(20):
                self.just(oil_book(lengths, [1] * 14, 1), "span", sum(lengths))
                for worth in WORTHS:
                    self.held(oil_book(lengths, [1] * 14, 1, starts, dues), worth, 2000)

    def test_as_many_as_a_book_may_have(self):
        for seed in range(2):
            for worth in WORTHS:
                with within(40):
                    self.held(mixed_book(30, seed), worth, 2000)

    def test_cases_of_as_many_tasks_as_a_book_may_have(self):
        with within(40):
            book = oil_book([3] * 30, [3] * 30, 89)
            best = self.held(book, "span", 2000)
            self.assertEqual(best.value, 6)
            for most in (0, 1, 2):
                told = self.held(book, "span", most)
                self.assertEqual(told.cases, min(most, best.cases))

    def test_papers_with_as_much_as_they_may_have(self):
        rng = random.Random(5)
        most_parts = most_deep = 0
        for _ in range(6):
            lengths = [rng.randint(3, 9) for _ in range(12)]
            needs = [rng.randint(1, 3) for _ in range(12)]
            with within(40):
                best = self.held(oil_book(lengths, needs, 4), "span", 2000)
            parts = parts_of(best.paper)
            most_parts = max(most_parts, len(parts))
            most_deep = max(most_deep, max(len(path) for path, _ in parts))
            if best.bound < best.value:
                self.assertTrue(len(parts) > 1100 or most_deep >= 58)
        self.assertGreater(most_parts, 1100)

    def test_papers_as_deep_in_others_as_they_may_be(self):
        deepest = 0
        for many in (20, 24):
            for seed in range(4):
                with within(40):
                    best = self.held(deep_book(many, seed, 60), "late", 2000)
                deepest = max(deepest, max(len(path) for path, _ in parts_of(best.paper)))
        self.assertEqual(deepest, 59)

    def test_time_of_small_books(self):
        books = [book for book in tight_books(60, 10) + tight_books(60, 11, times=149) if counts(book, "span")]
        for book in books:
            before = time.process_time()
            error_of(best_plan, book, "span", 2000)
            self.assertLess(time.process_time() - before, 0.5)


class Shown(Case):
    def test_a_greater_bound_is_not_shown(self):
        for book in tight_books(150, 12):
            if counts(book, "late"):
                best = self.held(book, "late", 2000)
                if isinstance(best, Best):
                    for more in (1, 2, 50):
                        self.assertFalse(shows(book, "late", best.bound + more, best.paper))
                    self.assertFalse(shows(book, "late", None, best.paper))


if __name__ == "__main__":
    unittest.main()
