"""Stretches (point 70; the interface's stretches.py)."""

import copy
import random
import unittest

from boundsmith.nets import heads, tails
from boundsmith.stretches import is_stretch, latest_ends, must_lie, stretch_for
from tests.samples import (
    NAMES, book_of_tasks, gaps_by_hand, name_of_error, plain_book, some_arcs, some_books, task, things, within)

WORTHS = ("span", "late")
RING = [(0, 1), (1, 0)]


def latest_by_hand(book, arcs, worth, bound):
    """The latest ends by the words of the document, without a ring."""
    gaps, rests, fixed = gaps_by_hand(book, arcs), tails(book, arcs, worth), dict(book[4])

    def latest(number):
        told = [latest(b) for a, b in gaps if a == number]
        behind = [b for a, b in gaps if a == number]
        told = [end - book[2][b][1] - gaps[(number, b)] for end, b in zip(told, behind) if end is not None]
        if bound is not None and rests[number] is not None:
            told.append(bound - 1 - rests[number])
        if number in fixed:
            told.append(fixed[number] + book[2][number][1])
        return min(told, default=None)

    return [latest(number) for number in range(len(book[2]))]


def must_by_hand(book, arcs, worth, bound, number, first, behind):
    end = latest_by_hand(book, arcs, worth, bound)[number]
    if end is None:
        return 0
    length, head = book[2][number][1], heads(book, arcs)[number]
    return min(sum(first <= hour < behind for hour in range(begin, begin + length)) for begin in (head, end - length))


def wants_by_hand(book, name):
    """How much each task wants of a name, and how many there are of it; None of no name."""
    if name in book[0]:
        return [int(row[2] == name) for row in book[2]], 1
    if name in dict(book[1]):
        return [dict(row[3]).get(name, 0) for row in book[2]], dict(book[1])[name]
    return None


def is_by_hand(book, arcs, worth, bound, name, first, behind):
    wants = wants_by_hand(book, name)
    if wants is None:
        return False
    ends, starts = latest_by_hand(book, arcs, worth, bound), heads(book, arcs)
    for number, row in enumerate(book[2]):
        if wants[0][number] and ends[number] is not None and starts[number] + row[1] > ends[number]:
            return True
    must = [must_by_hand(book, arcs, worth, bound, number, first, behind) * want for number, want in enumerate(wants[0])]
    return sum(must) > (behind - first) * wants[1]


def for_by_hand(book, arcs, worth, bound):
    """The first stretch, all gone through."""
    ends, starts = latest_by_hand(book, arcs, worth, bound), heads(book, arcs)
    timed = [(starts[k], ends[k], row[1]) for k, row in enumerate(book[2]) if ends[k] is not None]
    firsts = sorted({hour for head, end, length in timed for hour in (head, end - length)})
    behinds = sorted({hour for head, end, length in timed for hour in (end, head + length)})
    for name in [good for good, _ in book[1] if good not in book[0]] + list(book[0]):
        for first in firsts:
            for behind in behinds:
                if first < behind and is_by_hand(book, arcs, worth, bound, name, first, behind):
                    return (name, first, behind)
    return None


def saw_book(start=0, many=3, length=4):
    """So many like tasks of a saw."""
    return book_of_tasks([task(NAMES[k], length, "saw", (), start) for k in range(many)], ("saw", "press"))


def oil_book(needs=(2, 2, 1), many=3, length=4):
    tasks = [task(NAMES[k], length, "", (("oil", need),)) for k, need in enumerate(needs)]
    return book_of_tasks(tasks, ("saw",), (("glue", 1), ("oil", many)))


def calls(book, arcs, worth, bound=9):
    return [name_of_error(latest_ends, book, arcs, worth, bound),
            name_of_error(must_lie, book, arcs, worth, bound, 0, 0, 9),
            name_of_error(is_stretch, book, arcs, worth, bound, "saw", 0, 9),
            name_of_error(stretch_for, book, arcs, worth, bound)]


class Refused(unittest.TestCase):
    def test_arcs_first(self):
        bad = [thing for thing in things() if thing != []]
        bad += [[(0, 0)], [(0, 3)], [(0, -1)], [(True, 0)], [[0, 1]], [(0, 1, 2)], [(0, 1)] * 901, ((0, 1),), None]
        for arcs in bad:
            for worth in ("span", "sum", None, []):
                self.assertEqual(calls(saw_book(), arcs, worth), ["BadArcs"] * 4, str(arcs)[:50])

    def test_then_the_worth(self):
        for arcs in ([], [(0, 1)], RING):
            for worth in things() + ["sum", "count", "Span", ["span"], ("late",)]:
                self.assertEqual(calls(saw_book(), arcs, worth), ["BadWorth"] * 4, str(worth)[:50])

    def test_900_arcs_and_901(self):
        self.assertEqual(calls(saw_book(), [(0, 1)] * 900, "span"), [None] * 4)
        self.assertEqual(calls(saw_book(), [(0, 1)] * 901, "span"), ["BadArcs"] * 4)

    def test_where_no_task_counts_nothing_is_refused(self):
        book = plain_book(3, weight=0)
        for worth in WORTHS:
            for bound in (5, None):
                self.assertEqual(calls(book, [], worth, bound), [None] * 4)


class Own(unittest.TestCase):
    def told(self, book, arcs, worth, bound):
        return [latest_ends(book, arcs, worth, bound), must_lie(book, arcs, worth, bound, 0, 0, 9),
                is_stretch(book, arcs, worth, bound, "saw", 0, 9), stretch_for(book, arcs, worth, bound)]

    def test_what_is_handed_in_stays(self):
        rng = random.Random(1)
        for book in some_books(50, 1):
            arcs = some_arcs(rng, book)
            before = copy.deepcopy((book, arcs))
            for worth in WORTHS:
                self.told(book, arcs, worth, 9)
            self.assertEqual((book, arcs), before)

    def test_what_is_told_is_the_askers_own(self):
        book = saw_book()
        ends = latest_ends(book, [], "span", 9)
        ends.append(5)
        ends[0] = 77
        self.assertEqual(latest_ends(book, [], "span", 9), [8, 8, 8])

    def test_kinds(self):
        told = self.told(saw_book(), [], "span", 12)
        self.assertEqual([type(part) for part in told], [list, int, bool, tuple])
        self.assertIs(is_stretch(saw_book(), [], "span", 12, "saw", 0, 11), True)
        self.assertIs(is_stretch(saw_book(), [], "span", 99, "saw", 0, 11), False)

    def test_asked_again_the_same_is_told(self):
        rng = random.Random(2)
        for book in some_books(50, 2):
            arcs = some_arcs(rng, book, 1)
            for worth in WORTHS:
                self.assertEqual(self.told(book, arcs, worth, 9), self.told(book, list(arcs), worth, 9))


class WithARing(unittest.TestCase):
    def test_nothing_is_told(self):
        for worth in WORTHS:
            for bound in (0, 9, None):
                for book in (saw_book(), plain_book(2), plain_book(2, (), [(0, 5)])):
                    self.assertIsNone(latest_ends(book, RING, worth, bound))
                    self.assertIsNone(must_lie(book, RING, worth, bound, 0, 0, 9))
                    self.assertIs(is_stretch(book, RING, worth, bound, "saw", 0, 9), False)
                    self.assertIsNone(stretch_for(book, RING, worth, bound))

    def test_waits_and_arcs_together(self):
        book = plain_book(2, [(0, 1, 3)])
        self.assertIsNone(latest_ends(book, [(1, 0)], "span", 9))
        self.assertEqual(latest_ends(book, [(0, 1)], "span", 9), [4, 8])


class LatestEnds(unittest.TestCase):
    def test_by_the_bound_and_tails(self):
        book = plain_book(3, [(0, 1, 3)], length=4)
        self.assertEqual(latest_ends(book, [], "span", 20), [12, 19, 19])
        self.assertEqual(latest_ends(book, [(1, 2)], "span", 20), [8, 15, 19])

    def test_by_dues(self):
        book = book_of_tasks([task("a", 4, due=10), task("b", 3), task("c", 2, due=5)])
        self.assertEqual(latest_ends(book, [], "late", 1), [10, None, 5])
        self.assertEqual(latest_ends(book, [], "late", 4), [13, None, 8])
        self.assertEqual(latest_ends(book, [(1, 0)], "late", -20), [-11, -15, -16])

    def test_tasks_without_a_latest_end(self):
        book = book_of_tasks([task("a", 4, weight=0), task("b", 3), task("c", 2, weight=0)])
        self.assertEqual(latest_ends(book, [], "span", 9), [None, 8, None])
        self.assertEqual(latest_ends(book, [(0, 1)], "span", 9), [5, 8, None])
        self.assertEqual(latest_ends(book, [(1, 2)], "span", 9), [None, 8, None])

    def test_fixed_ones(self):
        book = plain_book(3, [(0, 1, 2)], [(1, 6)], length=3)
        self.assertEqual(latest_ends(book, [], "span", 50), [4, 9, 49])
        self.assertEqual(latest_ends(book, [], "span", 10), [4, 9, 9])
        self.assertEqual(latest_ends(book, [], "span", 9), [3, 8, 8])
        self.assertEqual(latest_ends(book, [(1, 2)], "span", 50), [4, 9, 49])
        self.assertEqual(latest_ends(book, [(2, 0)], "span", 50), [4, 9, 1])

    def test_none_as_the_bound(self):
        book = plain_book(4, [(0, 1, 2), (3, 0, 1)], [(1, 6)], length=3)
        for worth in WORTHS:
            self.assertEqual(latest_ends(book, [], worth, None), [4, 9, None, 0])
        self.assertEqual(latest_ends(plain_book(2), [], "span", None), [None, None])

    def test_of_several_followers_the_least(self):
        book = book_of_tasks([task("a", 1), task("b", 5), task("c", 2)], waits=[(0, 1, 0), (0, 2, 4)])
        self.assertEqual(latest_ends(book, [], "span", 11), [4, 10, 10])
        book = book_of_tasks([task("a", 1), task("b", 5), task("c", 2)], waits=[(0, 1, 0), (0, 2, 2)])
        self.assertEqual(latest_ends(book, [], "span", 11), [5, 10, 10])

    def test_great_numbers(self):
        self.assertEqual(latest_ends(plain_book(1), [], "span", 10 ** 900), [10 ** 900 - 1])
        self.assertEqual(latest_ends(plain_book(1), [], "span", -5), [-6])

    def test_by_hand(self):
        rng = random.Random(3)
        for book in some_books(300, 3):
            arcs = some_arcs(rng, book, 2)
            if heads(book, arcs) is None:
                continue
            for worth in WORTHS:
                for bound in (rng.randint(-9, 30), None):
                    self.assertEqual(latest_ends(book, arcs, worth, bound), latest_by_hand(book, arcs, worth, bound))


class MustLie(unittest.TestCase):
    # One task of length 4: from its head 2 to 6, and, with 10 as the bound, at its latest from 5 to 9.
    book = saw_book(2, 1)

    def must(self, first, behind, bound=10):
        return must_lie(self.book, [], "span", bound, 0, first, behind)

    def test_in_part(self):
        self.assertEqual(self.must(5, 6), 1)
        self.assertEqual(self.must(4, 7), 2)
        self.assertEqual(self.must(3, 8), 3)
        self.assertEqual(self.must(5, 100), 1)
        self.assertEqual(self.must(0, 6), 1)

    def test_at_all(self):
        self.assertEqual(self.must(2, 9), 4)
        self.assertEqual(self.must(-99, 99), 4)

    def test_not_at_all(self):
        for first, behind in ((2, 5), (6, 9), (6, 99), (-9, 5), (9, 20), (-5, 0)):
            self.assertEqual(self.must(first, behind), 0)

    def test_no_room_to_move(self):
        self.assertEqual(self.must(2, 6, 7), 4)
        self.assertEqual(self.must(3, 5, 7), 2)
        self.assertEqual(self.must(0, 3, 7), 1)

    def test_a_latest_end_that_is_too_early(self):
        self.assertEqual(self.must(2, 5, 6), 3)
        self.assertEqual(self.must(1, 5, 6), 3)
        self.assertEqual(self.must(1, 6, 6), 4)

    def test_none(self):
        self.assertEqual(self.must(0, 99, None), 0)
        book = book_of_tasks([task("a", 4, weight=0), task("b", 3)])
        self.assertEqual(must_lie(book, [], "span", 4, 0, 0, 99), 0)
        self.assertEqual(must_lie(book, [], "span", 4, 1, 0, 99), 3)

    def test_by_arcs(self):
        book = plain_book(2, length=4)
        self.assertEqual(must_lie(book, [(0, 1)], "span", 9, 0, 0, 4), 4)
        self.assertEqual(must_lie(book, [(0, 1)], "span", 9, 1, 0, 4), 0)
        self.assertEqual(must_lie(book, [(1, 0)], "span", 9, 1, 0, 4), 4)

    def test_by_hand(self):
        rng = random.Random(4)
        for book in some_books(200, 4):
            arcs = some_arcs(rng, book, 1)
            if heads(book, arcs) is None:
                continue
            for worth in WORTHS:
                bound = rng.choice([rng.randint(-5, 25), None])
                first = rng.randint(-5, 15)
                behind = first + rng.randint(1, 12)
                for number in range(len(book[2])):
                    self.assertEqual(must_lie(book, arcs, worth, bound, number, first, behind),
                                     must_by_hand(book, arcs, worth, bound, number, first, behind))


class IsStretch(unittest.TestCase):
    def test_by_a_machine(self):
        book = saw_book()
        self.assertTrue(is_stretch(book, [], "span", 12, "saw", 0, 11))
        self.assertFalse(is_stretch(book, [], "span", 13, "saw", 0, 12))
        self.assertFalse(is_stretch(book, [], "span", 12, "saw", 0, 12))
        self.assertFalse(is_stretch(book, [], "span", 12, "saw", 1, 11))
        self.assertTrue(is_stretch(book, [], "span", 11, "saw", 0, 11))

    def test_by_a_good(self):
        book = oil_book()
        self.assertTrue(is_stretch(book, [], "span", 7, "oil", 0, 6))
        self.assertFalse(is_stretch(book, [], "span", 8, "oil", 0, 7))
        self.assertFalse(is_stretch(oil_book((2, 2, 1), 4), [], "span", 6, "oil", 0, 5))
        self.assertTrue(is_stretch(oil_book((2, 2, 1), 4), [], "span", 5, "oil", 0, 4))

    def test_as_many_as_there_are_is_no_stretch(self):
        self.assertFalse(is_stretch(oil_book((2, 1)), [], "span", 5, "oil", 0, 4))
        self.assertTrue(is_stretch(oil_book((2, 2)), [], "span", 5, "oil", 0, 4))
        self.assertFalse(is_stretch(saw_book(0, 1), [], "span", 5, "saw", 0, 4))

    def test_a_task_that_ends_too_late(self):
        book = saw_book(2, 1)
        self.assertFalse(is_stretch(book, [], "span", 7, "saw", 90, 91))
        self.assertTrue(is_stretch(book, [], "span", 6, "saw", 90, 91))
        self.assertFalse(is_stretch(book, [], "span", 6, "press", 0, 9))

    def test_a_good_that_is_wanted_by_one_that_ends_too_late(self):
        book = oil_book((1,), 99)
        self.assertFalse(is_stretch(book, [], "span", 5, "oil", 50, 51))
        self.assertTrue(is_stretch(book, [], "span", 4, "oil", 50, 51))
        self.assertFalse(is_stretch(book, [], "span", 4, "glue", 0, 9))
        self.assertFalse(is_stretch(book, [], "span", 4, "saw", 0, 9))

    def test_hours_that_do_not_rise(self):
        for first, behind in ((0, 0), (5, 5), (9, 0), (1, 0)):
            self.assertIs(is_stretch(saw_book(), [], "span", 12, "saw", first, behind), False)

    def test_none_as_the_bound(self):
        tasks = [task("a", 4, "saw"), task("b", 3, "saw"), task("c", 2)]
        for begin, late in ((6, True), (7, False)):
            book = book_of_tasks(tasks, ("saw",), waits=[(0, 1, 0)], fixed=[(1, begin)])
            self.assertFalse(is_stretch(book, [], "span", None, "saw", 0, 5))
            crowd = book_of_tasks(tasks, ("saw",), waits=[(0, 2, 0), (1, 2, 0)], fixed=[(2, begin)])
            self.assertIs(is_stretch(crowd, [], "span", None, "saw", 0, begin), late)
        book = book_of_tasks(tasks, ("saw",), waits=[(0, 1, 0)], fixed=[(1, 3)])
        self.assertTrue(is_stretch(book, [], "late", None, "saw", 0, 1))

    def test_of_no_name(self):
        for name in ("", "drill", "oil ", "ta", "Saw", "sa", "saw saw", "-", "a b"):
            self.assertIs(is_stretch(saw_book(), [], "span", 1, name, 0, 9), False)
            self.assertIs(is_stretch(oil_book(), [], "span", 1, name, 0, 9), False)
        self.assertIs(is_stretch(plain_book(2), [], "span", 1, "", 0, 9), False)

    def test_a_name_that_is_a_goods_and_a_machines(self):
        tasks = [task(NAMES[k], 4, "", (("saw", 2),)) for k in range(3)]
        book = book_of_tasks(tasks, ("saw",), (("saw", 2),))
        self.assertFalse(is_stretch(book, [], "span", 9, "saw", 0, 8))
        self.assertFalse(is_stretch(book, [], "span", 2, "saw", 0, 8))
        self.assertTrue(is_stretch(book_of_tasks(tasks, (), (("saw", 2),)), [], "span", 9, "saw", 0, 8))
        tasks = [task(NAMES[k], 4, "saw", (("saw", 1),)) for k in range(3)]
        book = book_of_tasks(tasks, ("saw",), (("saw", 99),))
        self.assertTrue(is_stretch(book, [], "span", 12, "saw", 0, 11))

    def test_by_hand(self):
        rng = random.Random(5)
        shown = 0
        for book in some_books(300, 5):
            arcs = some_arcs(rng, book, 1)
            if heads(book, arcs) is None:
                continue
            for worth in WORTHS:
                bound = rng.choice([rng.randint(-5, 25), rng.randint(3, 20), None])
                first = rng.randint(-3, 9)
                behind = first + rng.randint(1, 15)
                for name in ("saw", "press", "oil"):
                    told = is_stretch(book, arcs, worth, bound, name, first, behind)
                    self.assertIs(told, is_by_hand(book, arcs, worth, bound, name, first, behind))
                    shown += told
        self.assertGreater(shown, 100)


class StretchFor(unittest.TestCase):
    def test_by_a_machine(self):
        self.assertEqual(stretch_for(saw_book(), [], "span", 12), ("saw", 0, 11))
        self.assertIsNone(stretch_for(saw_book(), [], "span", 13))
        self.assertEqual(stretch_for(saw_book(5), [], "span", 17), ("saw", 5, 16))
        self.assertIsNone(stretch_for(saw_book(5), [], "span", 18))

    def test_by_a_good(self):
        self.assertEqual(stretch_for(oil_book(), [], "span", 7), ("oil", 0, 6))
        self.assertEqual(stretch_for(oil_book(), [], "span", 8), ("oil", 3, 4))
        self.assertIsNone(stretch_for(oil_book(), [], "span", 9))

    def test_goods_ahead_of_machines_in_their_order(self):
        tasks = [task(NAMES[k], 4, "saw", (("oil", 1), ("glue", 1))) for k in range(3)]
        for goods, name in (((("oil", 1), ("glue", 1)), "oil"), ((("glue", 1), ("oil", 1)), "glue"),
                            ((("glue", 9), ("oil", 1)), "oil"), ((("glue", 9), ("oil", 9)), "saw")):
            book = book_of_tasks(tasks, ("press", "saw"), goods)
            self.assertEqual(stretch_for(book, [], "span", 12), (name, 0, 11))

    def test_machines_in_their_order(self):
        tasks = [task(NAMES[k], 4, ("saw", "press")[k // 3]) for k in range(6)]
        for machines in (("saw", "press"), ("press", "saw"), ("idle", "press", "saw")):
            told = stretch_for(book_of_tasks(tasks, machines), [], "span", 12)
            self.assertEqual(told, (machines[-2], 0, 11))

    def test_the_least_first_then_the_least_behind(self):
        tasks = [task("a", 4, "saw", (), 0, 9), task("b", 4, "saw", (), 0, 7), task("c", 1, "saw", (), 20, 21),
                 task("d", 2, "saw", (), 20, 21), task("e", 1, "saw", (), 20, 22)]
        self.assertEqual(stretch_for(book_of_tasks(tasks, ("saw",)), [], "late", 1), ("saw", 0, 4))
        tasks[3] = task("d", 2, "saw", (), 20, 22)
        self.assertEqual(stretch_for(book_of_tasks(tasks, ("saw",)), [], "late", 1), ("saw", 20, 21))
        tasks[1] = task("b", 4, "saw", (), 0, 4)
        tasks[0] = task("a", 4, "saw", (), 0, 7)
        self.assertEqual(stretch_for(book_of_tasks(tasks, ("saw",)), [], "late", 1), ("saw", 0, 4))

    def test_hours_of_tasks_that_want_something_else(self):
        tasks = [task("a", 1, "press", (), 1, 30), task("b", 4, "saw", (), 3, 9), task("c", 4, "saw", (), 3, 9)]
        self.assertEqual(stretch_for(book_of_tasks(tasks, ("press", "saw")), [], "late", 1), ("saw", 3, 9))
        tasks[0] = task("a", 4, "press", (), 3, 8)
        self.assertEqual(stretch_for(book_of_tasks(tasks, ("press", "saw")), [], "late", 1), ("saw", 3, 8))

    def test_a_task_that_ends_too_late(self):
        book = book_of_tasks([task("a", 4, "saw", (), 3, 9), task("b", 2, "", (), 1, 2)], ("saw",))
        self.assertIsNone(stretch_for(book, [], "late", -1))
        self.assertEqual(stretch_for(book, [], "late", -2), ("saw", -3, -1))

    def test_a_name_that_is_a_goods_and_a_machines(self):
        tasks = [task(NAMES[k], 4, "", (("saw", 2),)) for k in range(3)]
        self.assertIsNone(stretch_for(book_of_tasks(tasks, ("saw",), (("saw", 2),)), [], "span", 9))
        self.assertEqual(stretch_for(book_of_tasks(tasks, (), (("saw", 2),)), [], "span", 9), ("saw", 0, 8))
        both = [task(NAMES[k], 4, "saw", (("saw", 2), ("oil", 1))) for k in range(3)]
        book = book_of_tasks(both, ("press", "saw"), (("saw", 2), ("oil", 1)))
        self.assertEqual(stretch_for(book, [], "span", 9), ("oil", 0, 8))
        book = book_of_tasks(both, ("press", "saw"), (("saw", 2), ("oil", 9)))
        self.assertEqual(stretch_for(book, [], "span", 9), ("saw", 0, 8))

    def test_none_as_the_bound(self):
        self.assertIsNone(stretch_for(saw_book(), [], "span", None))
        tasks = [task("a", 4, "saw"), task("b", 3, "saw"), task("c", 2)]
        book = book_of_tasks(tasks, ("saw",), waits=[(0, 2, 0), (1, 2, 0)], fixed=[(2, 6)])
        self.assertEqual(stretch_for(book, [], "span", None), ("saw", 0, 6))

    def test_no_task_with_a_latest_end_and_no_names(self):
        self.assertIsNone(stretch_for(saw_book(), [], "late", 1))
        self.assertIsNone(stretch_for(plain_book(3), [], "span", 0))

    def test_all_gone_through(self):
        rng = random.Random(6)
        told, seen = [], {}
        for book in some_books(400, 6):
            arcs = some_arcs(rng, book, 1)
            if heads(book, arcs) is None:
                continue
            for worth in WORTHS:
                for bound in (rng.randint(-5, 12), rng.randint(3, 20), None):
                    told = stretch_for(book, arcs, worth, bound)
                    self.assertEqual(told, for_by_hand(book, arcs, worth, bound))
                    if told is not None:
                        self.assertTrue(is_stretch(book, arcs, worth, bound, *told))
                        seen[told[0]] = seen.get(told[0], 0) + 1
        self.assertGreater(min(seen[name] for name in ("saw", "press", "oil")), 20)

    def test_thirty_tasks(self):
        rng = random.Random(7)
        goods = (("oil", 9), ("crew", 5), ("glue", 3), ("wood", 7))
        tasks = [task(NAMES[k], rng.randint(1, 9), rng.choice(["", "saw", "press"]),
                      tuple((good, rng.randint(1, 2)) for good, _ in goods), rng.randint(0, 90), rng.randint(60, 190))
                 for k in range(30)]
        book = book_of_tasks(tasks, ("saw", "press"), goods)
        with within(60):
            bound = -100
            while (told := stretch_for(book, [], "late", bound)) is not None:
                self.assertTrue(is_stretch(book, [], "late", bound, *told))
                bound += 1
        self.assertGreater(bound, -99)


if __name__ == "__main__":
    unittest.main()
