"""Two machines in a row (point 40; the interface's tworow.py)."""

import copy
import itertools
import random
import unittest

from boundsmith.tworow import least_span, set_bound, span_of
from tests.samples import deep, error_of, name_of_error, things, within

SIDES = ("front", "back")


def some_pairs(rng, most=5, length=9):
    return [(rng.randint(1, length), rng.randint(1, length)) for _ in range(rng.randint(1, most))]


def span_by_hand(rows, one, two):
    """The span of two orders, looked at hour by hour."""
    done, hour, first, second = {}, 0, list(one), list(two)
    free_one = free_two = 0
    while second:
        if first and free_one <= hour:
            free_one = hour + rows[first[0]][0]
            done[first.pop(0)] = free_one
        if free_two <= hour and done.get(second[0], hour + 1) <= hour:
            free_two = hour + rows[second.pop(0)][1]
        hour += 1
    return free_two


def johnson_by_hand(rows):
    numbers = range(len(rows))
    front = [k for k in numbers if rows[k][0] <= rows[k][1]]
    back = [k for k in numbers if rows[k][0] > rows[k][1]]
    return sorted(front, key=lambda k: (rows[k][0], k)) + sorted(back, key=lambda k: (-rows[k][1], k))


def bound_by_hand(rows, side, some):
    total = sum(min(rows[k]) for k in range(len(rows)) if k not in some)
    if side == "front":
        return total + min(rows[k][0] for k in some) + sum(rows[k][1] for k in some)
    return total + sum(rows[k][0] for k in some) + min(rows[k][1] for k in some)


def sets_of(many):
    return [some for count in range(1, many + 1) for some in itertools.combinations(range(many), count)]


def calls(rows, side="front", some=(0,), one=None, two=None):
    order = [0] if one is None else one
    return [name_of_error(least_span, rows), name_of_error(set_bound, rows, side, some),
            name_of_error(span_of, rows, order, [0] if two is None else two)]


def bad_orders(many):
    full = list(range(many))
    told = [full[1:], full + [many], full[:-1] + [many], full[:-1] + [-1], full + [0], [0] * many if many > 1 else [1],
            full[:-1] + [10 ** 999], full[:-1] + [None], [False] + full[1:], full[:-1] + ["0"], [full], tuple(full),
            "0", {k: k for k in full}, None, full[:-1] + [[0]], full[:-1] + [deep("list", 149)], [True] + full[1:]]
    return told + [thing for thing in things() if thing != full]


def bad_sets(many):
    told = [(), [0], [0, 1], (0, 0), (1, 0), (0, 1, 1), (many,), (0, many), (-1,), (-1, 0), (True,), (0, True), (False,),
            (0, None), ("0",), ((0,),), {0: 0}, 0, "0", None, (10 ** 999,), (0, [1])]
    return told + [thing for thing in things() if thing != (0,)]


class RefusedRows(unittest.TestCase):
    def refused(self, rows):
        for side, some, order in (("front", (0,), [0]), ("side", (0,), [0]), (None, None, None), ("back", (), (0,))):
            self.assertEqual(calls(rows, side, some, order, order), ["BadRows"] * 3, str(rows)[:60])

    def test_things_of_any_kind(self):
        for thing in things():
            self.refused(thing)
            self.refused([thing])
            self.refused([(1, 1), thing])

    def test_each_part_of_another_kind(self):
        for thing in things():
            if thing == 1 and thing is not True:
                continue
            self.refused([(thing, 1)])
            self.refused([(1, thing)])
            self.refused([(1, 1), (1, thing), (2, 2)])

    def test_each_part_at_its_bounds(self):
        for value in (1, 2, 999, 1000):
            self.assertEqual(calls([(value, 1)]), [None] * 3)
            self.assertEqual(calls([(1, value)]), [None] * 3)
        for value in (0, -1, 1001, 1000000):
            self.refused([(value, 1)])
            self.refused([(1, value)])

    def test_pairs_of_another_form(self):
        for bad in ([[1, 1]], ((1, 1),), [(1,)], [(1, 1, 1)], [()], [1, 1], {(1, 1): 0}, [(1, 1), [1, 1]]):
            self.refused(bad)

    def test_one_row_and_thirty(self):
        self.refused([])
        self.refused([(1, 1)] * 31)
        for many in (1, 2, 29, 30):
            rows = [(k + 1, 30 - k) for k in range(many)]
            order = list(range(many))
            self.assertEqual(calls(rows, "back", (many - 1,), order, order), [None] * 3)


class RefusedTasks(unittest.TestCase):
    rows = [(1, 2), (3, 4), (5, 6)]

    def test_what_is_no_side(self):
        for side in things() + ["Front", "front ", "fron", "backs", ("front",), ["back"], {"front": 0}]:
            for some in ((0,), (0, 1), (), None):
                self.assertEqual(name_of_error(set_bound, self.rows, side, some), "BadTasks", str(side)[:50])

    def test_what_is_no_set(self):
        for side in SIDES:
            for some in bad_sets(3):
                self.assertEqual(name_of_error(set_bound, self.rows, side, some), "BadTasks", str(some)[:50])

    def test_what_is_a_set(self):
        for side in SIDES:
            for some in sets_of(3):
                self.assertIsNone(error_of(set_bound, self.rows, side, some))

    def test_what_is_no_order(self):
        for bad in bad_orders(3):
            for one, two in ((bad, [0, 1, 2]), ([0, 1, 2], bad), (bad, bad)):
                self.assertEqual(name_of_error(span_of, self.rows, one, two), "BadTasks", str(bad)[:50])
        for bad in bad_orders(1):
            self.assertEqual(name_of_error(span_of, [(1, 1)], bad, [0]), "BadTasks", str(bad)[:50])
            self.assertEqual(name_of_error(span_of, [(1, 1)], [0], bad), "BadTasks", str(bad)[:50])

    def test_refused_things_stay(self):
        one, two = [0, 1, 1], [2, 0, 1]
        self.assertEqual(name_of_error(span_of, self.rows, one, two), "BadTasks")
        self.assertEqual((one, two, self.rows), ([0, 1, 1], [2, 0, 1], [(1, 2), (3, 4), (5, 6)]))


class Own(unittest.TestCase):
    def test_what_is_handed_in_stays(self):
        rng = random.Random(1)
        for _ in range(50):
            rows = some_pairs(rng)
            one, two = rng.sample(range(len(rows)), len(rows)), rng.sample(range(len(rows)), len(rows))
            before = copy.deepcopy((rows, one, two))
            least_span(rows)
            set_bound(rows, "front", (0,))
            span_of(rows, one, two)
            self.assertEqual((rows, one, two), before)

    def test_what_is_told_is_the_askers_own(self):
        rows = [(3, 2), (1, 4), (2, 2)]
        told = least_span(rows)
        before = copy.deepcopy(told)
        told[1].append(5)
        told[1][0] = 9
        self.assertEqual(least_span(rows), before)

    def test_kinds(self):
        span, order, why = least_span([(3, 2), (1, 4), (2, 2)])
        self.assertIs(type(least_span([(3, 2)])), tuple)
        self.assertEqual([type(part) for part in (span, order, why)], [int, list, tuple])
        self.assertEqual([type(part) for part in why], [str, tuple])

    def test_asked_again_the_same_is_told(self):
        rng = random.Random(2)
        for _ in range(50):
            rows = some_pairs(rng, 9, 4)
            self.assertEqual(least_span(rows), least_span(list(rows)))


class LeastSpan(unittest.TestCase):
    def test_one_row(self):
        for pair in ((1, 1), (3, 8), (8, 3), (1000, 1000)):
            span, order, (side, some) = least_span([pair])
            self.assertEqual((span, order, some), (sum(pair), [0], (0,)))
            self.assertIn(side, SIDES)

    def test_the_order(self):
        rows = [(4, 6), (7, 2), (1, 1), (3, 9), (9, 5), (6, 5)]
        self.assertEqual(least_span(rows)[1], [2, 3, 0, 4, 5, 1])

    def test_like_ones_by_numbers(self):
        rows = [(3, 7), (9, 2), (3, 4), (8, 2), (3, 3), (5, 2), (3, 9)]
        self.assertEqual(least_span(rows)[1], [0, 2, 4, 6, 1, 3, 5])
        self.assertEqual(least_span([(1, 1)] * 30)[1], list(range(30)))
        self.assertEqual(least_span([(2, 1)] * 30)[1], list(range(30)))

    def test_the_span(self):
        self.assertEqual(least_span([(3, 2), (1, 4), (2, 2)])[0], 9)
        self.assertEqual(least_span([(1, 5), (1, 5)])[0], 11)
        self.assertEqual(least_span([(5, 1), (5, 1)])[0], 11)
        self.assertEqual(least_span([(1000, 1000)] * 30)[0], 31000)

    def test_a_front_and_a_back_that_show_it(self):
        self.assertEqual(least_span([(1, 5), (1, 5)]), (11, [0, 1], ("front", (0, 1))))
        self.assertEqual(least_span([(5, 1), (5, 1)]), (11, [0, 1], ("back", (0, 1))))

    def test_against_all_orders(self):
        rng = random.Random(3)
        told = {"front": 0, "back": 0}
        for _ in range(150):
            rows = some_pairs(rng, 4)
            span, order, (side, some) = least_span(rows)
            self.assertEqual(order, johnson_by_hand(rows))
            self.assertEqual(span, span_by_hand(rows, order, order))
            orders = [list(one) for one in itertools.permutations(order)]
            self.assertEqual(span, min(span_by_hand(rows, one, two) for one in orders for two in orders))
            self.assertEqual(some, tuple(sorted(set(some))))
            self.assertEqual(bound_by_hand(rows, side, some), span)
            told[side] += 1
        self.assertGreater(min(told.values()), 20)

    def test_what_is_told_shows_the_span(self):
        rng = random.Random(4)
        for _ in range(300):
            rows = some_pairs(rng, 30, rng.choice([3, 9, 1000]))
            span, order, (side, some) = least_span(rows)
            self.assertEqual(span, span_of(rows, order, order))
            self.assertEqual(set_bound(rows, side, some), span)
            self.assertEqual(order, johnson_by_hand(rows))

    def test_thirty_rows(self):
        with within(20):
            for k in range(50):
                least_span([((7 * j + k) % 1000 + 1, (11 * j * k) % 1000 + 1) for j in range(30)])


class SetBound(unittest.TestCase):
    def test_both_sides(self):
        rows = [(3, 5), (9, 2), (4, 4)]
        self.assertEqual(set_bound(rows, "front", (0,)), 3 + 5 + 2 + 4)
        self.assertEqual(set_bound(rows, "back", (0,)), 3 + 5 + 2 + 4)
        self.assertEqual(set_bound(rows, "front", (0, 1)), 3 + 7 + 4)
        self.assertEqual(set_bound(rows, "back", (0, 1)), 12 + 2 + 4)
        self.assertEqual(set_bound(rows, "front", (0, 1, 2)), 3 + 11)
        self.assertEqual(set_bound(rows, "back", (0, 1, 2)), 16 + 2)
        self.assertEqual(set_bound(rows, "back", (1, 2)), 3 + 13 + 2)

    def test_all_sets(self):
        rng = random.Random(5)
        for _ in range(100):
            rows = some_pairs(rng)
            span = least_span(rows)[0]
            bounds = []
            for side in SIDES:
                for some in sets_of(len(rows)):
                    bounds.append(set_bound(rows, side, some))
                    self.assertEqual(bounds[-1], bound_by_hand(rows, side, some))
            self.assertEqual(max(bounds), span)

    def test_all_thirty(self):
        rows = [(1000, 1)] * 30
        self.assertEqual(set_bound(rows, "back", tuple(range(30))), 30001)
        self.assertEqual(set_bound(rows, "front", tuple(range(30))), 1030)


class SpanOf(unittest.TestCase):
    def test_like_orders(self):
        rows = [(3, 2), (1, 4), (2, 2)]
        self.assertEqual(span_of(rows, [0, 1, 2], [0, 1, 2]), 11)
        self.assertEqual(span_of(rows, [1, 2, 0], [1, 2, 0]), 9)

    def test_unlike_orders(self):
        rows = [(3, 2), (1, 4), (2, 2)]
        self.assertEqual(span_of(rows, [0, 1, 2], [2, 1, 0]), 14)
        self.assertEqual(span_of(rows, [2, 1, 0], [0, 1, 2]), 14)
        self.assertEqual(span_of(rows, [0, 1, 2], [1, 0, 2]), 12)

    def test_one_row(self):
        self.assertEqual(span_of([(7, 9)], [0], [0]), 16)

    def test_hour_by_hour(self):
        rng = random.Random(6)
        unlike = 0
        for _ in range(300):
            rows = some_pairs(rng, 7)
            one, two = rng.sample(range(len(rows)), len(rows)), rng.sample(range(len(rows)), len(rows))
            self.assertEqual(span_of(rows, one, two), span_by_hand(rows, one, two))
            unlike += one != two
        self.assertGreater(unlike, 200)


if __name__ == "__main__":
    unittest.main()
