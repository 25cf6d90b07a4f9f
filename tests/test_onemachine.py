"""One machine (points 30 to 34; the interface's onemachine.py)."""

import copy
import itertools
import random
import unittest

from boundsmith.onemachine import fewest_late, least_late, least_sum, parted
from tests.samples import error_of, name_of_error, things, within

CALLS = (least_late, parted, fewest_late, least_sum)


def row(length=1, start=0, due=0, weight=0):
    return (length, start, due, weight)


def some_rows(rng, most=6, span=12):
    return [row(rng.randint(1, 5), rng.choice([0, rng.randint(0, span)]), rng.randint(0, span), rng.randint(0, 4))
            for _ in range(rng.randint(1, most))]


def ends_by_hand(rows, order):
    """The end of each row of an order, without FROMs."""
    return dict(zip(order, itertools.accumulate(rows[k][0] for k in order)))


def late_by_hand(rows, order):
    ends = ends_by_hand(rows, order)
    return max(ends[k] - rows[k][2] for k in order)


def count_by_hand(rows, order):
    ends = ends_by_hand(rows, order)
    return sum(ends[k] > rows[k][2] for k in order)


def sum_by_hand(rows, order):
    ends = ends_by_hand(rows, order)
    return sum(ends[k] * rows[k][3] for k in order)


def hours_by_hand(rows):
    """The row that is worked on at each hour, by the words of the document; None at an hour without one."""
    left, told, hour = [one[0] for one in rows], [], 0
    while any(left):
        there = [(one[2], k) for k, one in enumerate(rows) if left[k] and one[1] <= hour]
        told.append(min(there)[1] if there else None)
        if there:
            left[told[-1]] -= 1
        hour += 1
    return told


def pieces_by_hand(rows):
    hours = hours_by_hand(rows) + [None]
    pieces, first = [], 0
    for hour in range(1, len(hours)):
        if hours[hour] != hours[hour - 1]:
            pieces.append((hours[hour - 1], first, hour))
            first = hour
    return sorted(piece for piece in pieces if piece[0] is not None)


def sets_of(many):
    numbers = range(many)
    return [list(some) for count in range(1, many + 1) for some in itertools.combinations(numbers, count)]


def set_by_hand(rows, some):
    """What a set shows without FROMs."""
    return sum(rows[k][0] for k in some) - max(rows[k][2] for k in some)


def parted_set_by_hand(rows, some):
    return min(rows[k][1] for k in some) + set_by_hand(rows, some)


def due_order_by_hand(rows):
    return sorted(range(len(rows)), key=lambda k: (rows[k][2], k))


def table_by_hand(rows):
    """The table by all sets of the first rows by due order."""
    order = due_order_by_hand(rows)
    table = []
    for j in range(len(rows) + 1):
        told = []
        for k in range(j + 1):
            sums = [sum(rows[n][0] for n in some) for some in itertools.combinations(order[:j], k)
                    if count_by_hand(rows, list(some)) == 0]
            told.append(min(sums, default=None))
        table.append(told)
    return table


class Refused(unittest.TestCase):
    def refused(self, rows):
        for call in CALLS:
            self.assertEqual(name_of_error(call, rows), "BadRows", (call.__name__, str(rows)[:60]))

    def let_by(self, rows):
        for call in CALLS:
            self.assertIsNone(error_of(call, rows), (call.__name__, str(rows)[:60]))

    def test_things_of_any_kind(self):
        for thing in things():
            self.refused(thing)
            self.refused([thing])
            self.refused([row(), thing])
            self.refused([thing, row()])

    def test_each_part_of_another_kind(self):
        for place in range(4):
            for thing in things():
                if thing in (0, 1) and thing is not True and thing is not False and (place or thing):
                    continue
                parts = list(row())
                parts[place] = thing
                self.refused([tuple(parts)])
                self.refused([row(), tuple(parts), row()])

    def test_each_part_at_its_bounds(self):
        for place, least, most in ((0, 1, 1000), (1, 0, 1000000), (2, 0, 1000000), (3, 0, 1000)):
            for value in (least, least + 1, most - 1, most):
                self.let_by([row()[:place] + (value,) + row()[place + 1:]])
            for value in (least - 1, most + 1, -1, -most, most * 10, 10 ** 999):
                self.refused([row()[:place] + (value,) + row()[place + 1:]])
                self.refused([row(), row()[:place] + (value,) + row()[place + 1:]])

    def test_by_is_no_none(self):
        self.refused([(1, 0, None, 0)])
        self.refused([row(), (1, 0, None, 0)])

    def test_true_and_false_are_no_numbers(self):
        for bad in ((True, 0, 0, 0), (1, False, 0, 0), (1, 0, True, 0), (1, 0, 0, True)):
            self.refused([bad])

    def test_a_part_more_or_fewer(self):
        for bad in ((1, 0, 0), (1, 0, 0, 0, 0), (1,), (), (1, 0)):
            self.refused([bad])
            self.refused([row(), bad])

    def test_lists_and_tuples_in_each_others_place(self):
        for bad in ([[1, 0, 0, 0]], (row(),), (row(), row()), [row(), list(row())], {0: row()}, {row(): 0}):
            self.refused(bad)

    def test_one_row_and_thirty(self):
        self.refused([])
        for many in (1, 2, 29, 30):
            self.let_by([row(k + 1, k, 2 * k, k) for k in range(many)])
        for many in (31, 32, 60):
            self.refused([row()] * many)


class Own(unittest.TestCase):
    def test_what_is_handed_in_stays(self):
        rng = random.Random(1)
        for _ in range(50):
            rows = some_rows(rng)
            before = copy.deepcopy(rows)
            for call in CALLS:
                call(rows)
            self.assertEqual(rows, before)
        for rows in ([row(), [1, 0, 0, 0]], [row()] * 31):
            before = copy.deepcopy(rows)
            for call in CALLS:
                self.assertEqual(name_of_error(call, rows), "BadRows")
            self.assertEqual(rows, before)

    def test_what_is_told_is_the_askers_own(self):
        rows = [row(3, 2, 4, 1), row(2, 0, 9, 2), row(4, 1, 6, 3)]
        for call in CALLS:
            told = call(rows)
            before = copy.deepcopy(told)
            rows.append(row(9))
            self.assertEqual(told, before)
            rows.pop()
            for part in told[1:]:
                if part and isinstance(part[0], list):
                    part[0].append(8)
                part.append(7)
                part[0] = 9
            self.assertEqual(call(rows), before)

    def test_the_lists_of_one_answer_are_not_one_another(self):
        table = fewest_late([row(2, due=9), row(3, due=9)])[2]
        table[0].append(5)
        self.assertEqual(table[1:], [[0, 2], [0, 2, 5]])
        late, order, some = least_late([row(2)])
        order.append(5)
        self.assertEqual(some, [0])

    def test_asked_again_the_same_is_told(self):
        rng = random.Random(2)
        for _ in range(50):
            rows = some_rows(rng, 9)
            for call in CALLS:
                self.assertEqual(call(rows), call(list(rows)))

    def test_kinds(self):
        rows = [row(3, 2, 4, 1), row(2, 0, 9, 2)]
        for call in CALLS:
            told = call(rows)
            self.assertIs(type(told), tuple)
            self.assertEqual(len(told), 2 if call is least_sum else 3)
            self.assertEqual([type(part) for part in told[1:]], [list] * (len(told) - 1))
            self.assertIs(type(told[0]), int)
        self.assertEqual({type(piece) for piece in parted(rows)[1]}, {tuple})
        self.assertEqual({type(part) for part in fewest_late(rows)[2]}, {list})


class LeastLate(unittest.TestCase):
    def test_one_row(self):
        self.assertEqual(least_late([row(5, 0, 3)]), (2, [0], [0]))
        self.assertEqual(least_late([row(5, 0, 5)]), (0, [0], [0]))
        self.assertEqual(least_late([row(5, 0, 9)]), (-4, [0], [0]))

    def test_by_due(self):
        rows = [row(3, due=8), row(2, due=4), row(4, due=6)]
        self.assertEqual(least_late(rows), (1, [1, 2, 0], [0, 1, 2]))
        self.assertEqual(least_late([row(3, due=90), row(2, due=4), row(4, due=5)]), (1, [1, 2, 0], [1, 2]))

    def test_like_ones_by_number(self):
        rows = [row(3, due=9), row(2, due=4), row(9, due=4), row(1, due=9), row(1, due=4)]
        self.assertEqual(least_late(rows)[1], [1, 2, 4, 0, 3])
        self.assertEqual(least_late([row(1)] * 30)[1], list(range(30)))

    def test_without_froms_and_weights(self):
        rows = [row(3, 50, 8, 7), row(2, 1000000, 4, 0), row(4, 3, 6, 1000)]
        self.assertEqual(least_late(rows), (1, [1, 2, 0], [0, 1, 2]))

    def test_the_set_is_rising_and_shows_it(self):
        told = least_late([row(1, due=50), row(5, due=3), row(1, due=0), row(4, due=2)])
        self.assertEqual(told, (7, [2, 3, 1, 0], [1, 2, 3]))

    def test_by_all_orders(self):
        rng = random.Random(3)
        parts = 0
        for _ in range(400):
            rows = some_rows(rng, 5)
            late, order, some = least_late(rows)
            self.assertEqual(order, due_order_by_hand(rows))
            self.assertEqual(late, late_by_hand(rows, order))
            self.assertEqual(late, min(late_by_hand(rows, list(one)) for one in itertools.permutations(order)))
            self.assertEqual(some, sorted(set(some)))
            self.assertEqual(set_by_hand(rows, some), late)
            parts += len(some) < len(rows)
        self.assertGreater(parts, 100)

    def test_thirty_of_the_greatest(self):
        rows = [row(1000, 1000000, 0, 1000)] * 30
        self.assertEqual(least_late(rows), (30000, list(range(30)), list(range(30))))


class Parted(unittest.TestCase):
    def test_one_row(self):
        self.assertEqual(parted([row(5, 7, 3)]), (9, [(0, 7, 12)], [0]))
        self.assertEqual(parted([row(1000, 1000000, 1000000)]), (1000, [(0, 1000000, 1001000)], [0]))

    def test_left_and_taken_up_again(self):
        rows = [row(5, 0, 100), row(2, 1, 3)]
        self.assertEqual(parted(rows), (0, [(0, 0, 1), (0, 3, 7), (1, 1, 3)], [1]))

    def test_pieces_rise_as_tuples_do(self):
        rows = [row(2, 3, 5), row(4, 0, 100), row(1, 4, 4)]
        late, pieces, _ = parted(rows)
        self.assertEqual(pieces, [(0, 3, 4), (0, 5, 6), (1, 0, 3), (1, 6, 7), (2, 4, 5)])
        self.assertEqual(late, 1)

    def test_not_left_for_one_that_is_no_sooner_due(self):
        self.assertEqual(parted([row(5, 0, 9), row(2, 1, 9)])[1], [(0, 0, 5), (1, 5, 7)])
        self.assertEqual(parted([row(5, 0, 9), row(2, 1, 10), row(1, 3, 9)])[1], [(0, 0, 5), (1, 6, 8), (2, 5, 6)])

    def test_of_like_ones_the_least_number(self):
        self.assertEqual(parted([row(2, 1, 9), row(5, 0, 9)])[1], [(0, 1, 3), (1, 0, 1), (1, 3, 7)])

    def test_hours_in_which_nothing_is_there(self):
        rows = [row(2, 10, 30), row(1, 3, 40), row(3, 20, 20)]
        self.assertEqual(parted(rows), (3, [(0, 10, 12), (1, 3, 4), (2, 20, 23)], [2]))
        self.assertEqual(parted([row(1, 1000000, 0), row(1, 0, 0)])[1], [(0, 1000000, 1000001), (1, 0, 1)])

    def test_what_comes_just_at_an_end(self):
        self.assertEqual(parted([row(3, 0, 9), row(2, 3, 0), row(1, 5, 8)])[1], [(0, 0, 3), (1, 3, 5), (2, 5, 6)])

    def test_pieces_of_one_row_that_touch_are_one(self):
        rows = [row(9, 0, 50)] + [row(1, k, 60 + k) for k in range(1, 9)]
        self.assertEqual(parted(rows)[1][0], (0, 0, 9))

    def test_hour_by_hour(self):
        rng = random.Random(4)
        broken = idle = 0
        for _ in range(600):
            rows = some_rows(rng, 7)
            late, pieces, some = parted(rows)
            self.assertEqual(pieces, pieces_by_hand(rows))
            ends = {number: behind for number, _, behind in pieces}
            self.assertEqual(late, max(ends[k] - rows[k][2] for k in range(len(rows))))
            self.assertEqual(some, sorted(set(some)))
            self.assertEqual(parted_set_by_hand(rows, some), late)
            self.assertEqual(late, max(parted_set_by_hand(rows, one) for one in sets_of(len(rows))))
            broken += len(pieces) > len(rows)
            idle += None in hours_by_hand(rows)
        self.assertGreater(broken, 50)
        self.assertGreater(idle, 50)

    def test_thirty_rows(self):
        rng = random.Random(5)
        with within(60):
            for _ in range(20):
                rows = [row(rng.randint(1, 9), rng.randint(0, 150), rng.randint(0, 200)) for _ in range(30)]
                late, pieces, some = parted(rows)
                self.assertEqual(pieces, pieces_by_hand(rows))
                self.assertEqual(parted_set_by_hand(rows, some), late)
        rows = [row(1000, 900 * k, 1000000 - k) for k in range(30)]
        self.assertEqual(len(parted(rows)[1]), 59)


class FewestLate(unittest.TestCase):
    def test_one_row(self):
        self.assertEqual(fewest_late([row(5, due=5)]), (0, [0], [[0], [0, 5]]))
        self.assertEqual(fewest_late([row(5, due=4)]), (1, [0], [[0], [0, None]]))

    def test_a_short_one_instead_of_a_long_one(self):
        rows = [row(5, due=5), row(2, due=6), row(3, due=7)]
        count, order, table = fewest_late(rows)
        self.assertEqual((count, order[:2]), (1, [1, 2]))
        self.assertEqual(table, [[0], [0, 5], [0, 2, None], [0, 2, 5, None]])

    def test_the_table_goes_by_due_order(self):
        rows = [row(3, due=7), row(5, due=5), row(2, due=6)]
        self.assertEqual(fewest_late(rows)[2], [[0], [0, 5], [0, 2, None], [0, 2, 5, None]])

    def test_without_froms(self):
        rows = [row(5, 90, 5), row(2, 1000000, 6), row(3, 7, 7)]
        self.assertEqual(fewest_late(rows)[2], [[0], [0, 5], [0, 2, None], [0, 2, 5, None]])

    def test_none_and_all_in_time(self):
        self.assertEqual(fewest_late([row(1, due=0)] * 3)[0], 3)
        self.assertEqual(fewest_late([row(1, due=0)] * 3)[2], [[0], [0, None], [0, None, None], [0, None, None, None]])
        count, order, table = fewest_late([row(2, due=6), row(2, due=2), row(2, due=4)])
        self.assertEqual((count, order, table[3]), (0, [1, 2, 0], [0, 2, 4, 6]))

    def test_by_all_sets(self):
        rng = random.Random(6)
        for _ in range(300):
            rows = some_rows(rng, 6, 15)
            count, order, table = fewest_late(rows)
            self.assertEqual(table, table_by_hand(rows))
            self.assertEqual(sorted(order), list(range(len(rows))))
            self.assertEqual(count_by_hand(rows, order), count)
            self.assertEqual(count, len(rows) - max(k for k, hours in enumerate(table[-1]) if hours is not None))

    def test_by_all_orders(self):
        rng = random.Random(7)
        for _ in range(150):
            rows = some_rows(rng, 5)
            least = min(count_by_hand(rows, list(one)) for one in itertools.permutations(range(len(rows))))
            self.assertEqual(fewest_late(rows)[0], least)

    def test_thirty_rows(self):
        rng = random.Random(8)
        with within(60):
            for _ in range(20):
                rows = [row(rng.randint(1, 9), 0, rng.randint(0, 150)) for _ in range(30)]
                count, order, table = fewest_late(rows)
                self.assertEqual([len(part) for part in table], list(range(1, 32)))
                self.assertEqual(sorted(order), list(range(30)))
                self.assertEqual(count_by_hand(rows, order), count)


class LeastSum(unittest.TestCase):
    def test_one_row(self):
        self.assertEqual(least_sum([row(5, 9, 9, 3)]), (15, [0]))
        self.assertEqual(least_sum([row(5)]), (0, [0]))

    def test_short_and_weighty_ones_ahead(self):
        rows = [row(4, weight=1), row(2, weight=1), row(6, weight=6), row(3, weight=0)]
        self.assertEqual(least_sum(rows), (36 + 8 + 12, [2, 1, 0, 3]))

    def test_just_beside_one_another(self):
        rows = [row(1000, weight=999), row(999, weight=998)]
        self.assertEqual(least_sum(rows)[1], [0, 1])
        self.assertEqual(least_sum(rows[::-1])[1], [1, 0])

    def test_without_froms_and_dues(self):
        rows = [row(4, 1000000, 0, 1), row(2, 5, 7, 1)]
        self.assertEqual(least_sum(rows), (8, [1, 0]))

    def test_by_all_orders(self):
        rng = random.Random(9)
        for _ in range(300):
            rows = some_rows(rng, 5)
            told, order = least_sum(rows)
            self.assertEqual(sorted(order), list(range(len(rows))))
            self.assertEqual(told, sum_by_hand(rows, order))
            self.assertEqual(told, min(sum_by_hand(rows, list(one)) for one in itertools.permutations(order)))

    def test_neighbours_and_pairs(self):
        rng = random.Random(10)
        for _ in range(100):
            rows = [row(rng.randint(1, 1000), weight=rng.choice([0, rng.randint(0, 1000)])) for _ in range(30)]
            told, order = least_sum(rows)
            for one, other in zip(order, order[1:]):
                self.assertLessEqual(rows[one][0] * rows[other][3], rows[other][0] * rows[one][3])
            pairs = sum(min(one[0] * other[3], other[0] * one[3]) for one, other in itertools.combinations(rows, 2))
            self.assertEqual(told, pairs + sum(one[0] * one[3] for one in rows))

    def test_thirty_of_the_greatest(self):
        self.assertEqual(least_sum([row(1000, 0, 0, 1000)] * 30)[0], 1000 * 1000 * 465)


if __name__ == "__main__":
    unittest.main()
