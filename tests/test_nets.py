"""Nets (points 10 to 13; the interface's nets.py)."""

import copy
import itertools
import random
import unittest

from boundsmith.bounds import way_bound
from boundsmith.nets import first_of, heads, is_ring, longest, steps, tails
from tests.samples import (
    NAMES, begin_by_hand, book_of_tasks, gaps_by_hand, length_by_hand, name_of_error, plain_book, some_arcs,
    some_books, some_pairs, tail_by_hand, task, things, ways_by_hand, within)

WORTHS = ("span", "late")


def line_book(lengths, gaps, starts=None, dues=None, weights=None, fixed=()):
    """Tasks each of which waits for the one ahead."""
    many = len(lengths)
    starts, dues, weights = starts or [0] * many, dues or [None] * many, weights or [1] * many
    tasks = [task(NAMES[k], lengths[k], "", (), starts[k], dues[k], weights[k]) for k in range(many)]
    return book_of_tasks(tasks, waits=[(k, k + 1, gap) for k, gap in enumerate(gaps)], fixed=fixed)


def full_net(many):
    """A book and arcs by which each task goes ahead of each later one, in an order of no meaning."""
    rng = random.Random(3)
    order = list(range(many))
    rng.shuffle(order)
    arcs = [(order[a], order[b]) for a in range(many) for b in range(a + 1, many)]
    rng.shuffle(arcs)
    waits = [(order[k], order[k + 1], 2) for k in range(many - 1)] + [(order[0], order[many - 1], 9)]
    waits.extend((order[k], order[k + 2], 1) for k in range(many - 2))
    rng.shuffle(waits)
    tasks = [task(NAMES[k], k + 1, due=40 + k) for k in range(many)]
    return book_of_tasks(tasks, waits=waits[:60]), (arcs + arcs)[:900], order


class Asked(unittest.TestCase):
    """What is common to all that take arcs."""

    def calls(self, book, arcs):
        told = [steps(book, arcs), is_ring(book, arcs), heads(book, arcs)]
        for worth in WORTHS:
            told.extend([tails(book, arcs, worth), longest(book, arcs, worth)])
        return told

    def test_what_is_handed_in_stays(self):
        book = plain_book(4, [(0, 1, 2), (1, 2, 0)], [(3, 5)])
        for arcs in ([], [(0, 3), (3, 1), (0, 3)], [(3, 0), (2, 3)]):
            before = copy.deepcopy((book, arcs))
            self.calls(book, arcs)
            self.assertEqual((book, arcs), before)

    def test_what_is_told_is_the_askers_own(self):
        book = plain_book(4, [(0, 1, 2), (1, 2, 0)], [(3, 5)])
        arcs = [(0, 3), (3, 1)]
        before = copy.deepcopy(self.calls(book, arcs))
        told = self.calls(book, arcs)
        told[0].clear()
        for part in (told[2], told[3], told[4][1], told[5]):
            part.append(99)
            part[0] = 77
        self.assertEqual(self.calls(book, arcs), before)

    def test_asked_again_the_same_is_told(self):
        rng = random.Random(8)
        for book in some_books(60, 8):
            arcs = some_arcs(rng, book)
            self.assertEqual(self.calls(book, arcs), self.calls(book, list(arcs)))

    def bad_arcs(self):
        one = [(0, 3), (0, -1), (3, 0), (1, 1), (0, 0), (0, 1, 2), (0,), (), [0, 1], (True, 0), (0, True), (1, False),
               ("0", "1"), (None, 1), (0, None), (0, 1000000), (10 ** 999, 0), ((0, 1), 2), ([0], 1), "ab", 5, None, {}]
        lists = [[arc] for arc in one] + [[(0, 1), arc] for arc in one] + [[arc, (0, 1)] for arc in one]
        kinds = [thing for thing in things() if thing != []]
        return lists + kinds + [((0, 1),), (), ((0, 1), (1, 2)), {(0, 1): 0}, "01", [(0, 1)] * 901]

    def test_bad_arcs(self):
        book = plain_book(3)
        for arcs in self.bad_arcs():
            with self.subTest(arcs=str(arcs)[:60]):
                self.assertEqual(name_of_error(steps, book, arcs), "BadArcs")
                self.assertEqual(name_of_error(is_ring, book, arcs), "BadArcs")
                self.assertEqual(name_of_error(heads, book, arcs), "BadArcs")
                for worth in ("span", "late", "sum", None, []):
                    self.assertEqual(name_of_error(tails, book, arcs, worth), "BadArcs")
                    self.assertEqual(name_of_error(longest, book, arcs, worth), "BadArcs")

    def test_900_arcs_and_901(self):
        book = plain_book(3)
        for many, name in ((899, None), (900, None), (901, "BadArcs"), (2000, "BadArcs")):
            arcs = [(0, 1), (1, 2), (0, 2)] * 700
            for call in (steps, is_ring, heads):
                self.assertEqual(name_of_error(call, book, arcs[:many]), name)
            for call in (tails, longest):
                self.assertEqual(name_of_error(call, book, arcs[:many], "span"), name)

    def test_arcs_at_the_numbers_bounds(self):
        book = plain_book(3)
        self.assertEqual(steps(book, [(2, 0)]), {(2, 0): 0})
        self.assertEqual(steps(plain_book(30), [(29, 0), (0, 28)]), {(0, 28): 0, (29, 0): 0})
        self.assertEqual(name_of_error(steps, plain_book(30), [(30, 0)]), "BadArcs")
        self.assertEqual(name_of_error(steps, plain_book(1), [(0, 1)]), "BadArcs")

    def test_bad_worths(self):
        ring = [(0, 1), (1, 0)]
        kinds = things() + ["count", "sum", "Span", "span ", "spa", "lat", "LATE", ("late",), ["span"], {"span": 1}]
        for arcs in ([], [(0, 1)], ring):
            for worth in kinds:
                for call in (tails, longest):
                    self.assertEqual(name_of_error(call, plain_book(3), arcs, worth), "BadWorth", str(worth)[:60])


class FirstOf(unittest.TestCase):
    def test_from_or_begin(self):
        book = book_of_tasks([task("a", start=4), task("b", start=4), task("c"), task("d", start=1000000)],
                             fixed=[(1, 9), (2, 0)], waits=[(0, 3, 5)])
        self.assertEqual([first_of(book, k) for k in range(4)], [4, 9, 0, 1000000])

    def test_a_fixed_one_at_its_from(self):
        book = book_of_tasks([task("a", start=4), task("b", start=7)], fixed=[(1, 1000000), (0, 4)])
        self.assertEqual([first_of(book, 0), first_of(book, 1)], [4, 1000000])


class Steps(unittest.TestCase):
    def test_no_arcs_and_no_waits(self):
        self.assertEqual(steps(plain_book(3), []), {})

    def test_waits_alone(self):
        book = plain_book(4, [(2, 3, 7), (0, 1, 0)])
        self.assertEqual(steps(book, []), {(0, 1): 0, (2, 3): 7})

    def test_arcs_alone_have_no_gap(self):
        self.assertEqual(steps(plain_book(3), [(2, 1), (0, 2)]), {(0, 2): 0, (2, 1): 0})

    def test_arcs_beside_waits_and_told_twice(self):
        book = plain_book(3, [(0, 1, 5)])
        self.assertEqual(steps(book, [(0, 1), (1, 2), (0, 1), (1, 2)]), {(0, 1): 5, (1, 2): 0})

    def test_of_several_waits_the_greatest_gap(self):
        for gaps in itertools.permutations((3, 0, 1000)):
            book = plain_book(2, [(0, 1, gap) for gap in gaps])
            for arcs in ([], [(0, 1)]):
                self.assertEqual(steps(book, arcs), {(0, 1): 1000})

    def test_an_arc_against_a_wait(self):
        self.assertEqual(steps(plain_book(2, [(0, 1, 5)]), [(1, 0)]), {(0, 1): 5, (1, 0): 0})

    def test_the_pairs_are_rising(self):
        book = plain_book(12, [(11, 0, 1), (2, 10, 0), (2, 9, 4), (0, 3, 2)])
        told = steps(book, [(10, 1), (0, 11), (2, 9), (0, 2)])
        self.assertIs(type(told), dict)
        self.assertEqual(list(told), [(0, 2), (0, 3), (0, 11), (2, 9), (2, 10), (10, 1), (11, 0)])
        self.assertEqual(list(told.values()), [0, 2, 0, 4, 0, 0, 1])

    def test_by_hand(self):
        rng = random.Random(2)
        for book in some_books(200, 2):
            arcs = some_arcs(rng, book, 9)
            told = steps(book, arcs)
            self.assertEqual(told, gaps_by_hand(book, arcs))
            self.assertEqual(list(told), sorted(told))


class Rings(unittest.TestCase):
    def check(self, book, arcs, ring):
        self.assertIs(is_ring(book, arcs), ring)
        if ring:
            self.assertIsNone(heads(book, arcs))
            for worth in WORTHS:
                self.assertIsNone(tails(book, arcs, worth))
                self.assertIsNone(longest(book, arcs, worth))
        else:
            self.assertEqual(len(heads(book, arcs)), len(book[2]))

    def test_of_two(self):
        self.check(plain_book(2), [(0, 1), (1, 0)], True)
        self.check(plain_book(2, [(0, 1, 3)]), [(1, 0)], True)
        self.check(plain_book(5, [(4, 2, 0)]), [(0, 1), (2, 4)], True)

    def test_of_thirty(self):
        around = [(k, (k + 1) % 30) for k in range(30)]
        self.check(plain_book(30), around, True)
        self.check(plain_book(30), around[::-1], True)
        self.check(plain_book(30), [(b, a) for a, b in around], True)
        self.check(plain_book(30, [(a, b, 0) for a, b in around[:29]]), around[29:], True)
        for at in range(30):
            self.check(plain_book(30), around[:at] + around[at + 1:], False)

    def test_none(self):
        self.check(plain_book(1), [], False)
        self.check(plain_book(4, [(0, 1, 3), (0, 1, 4)]), [(0, 1), (1, 3), (0, 2), (2, 3), (0, 3)], False)

    def test_behind_and_ahead_of_others(self):
        self.check(plain_book(6, [(0, 1, 0), (1, 2, 0)]), [(2, 3), (3, 1), (3, 4)], True)

    def test_the_steps_are_told_with_a_ring(self):
        self.assertEqual(steps(plain_book(2), [(1, 0), (0, 1)]), {(0, 1): 0, (1, 0): 0})

    def test_by_hand(self):
        rng = random.Random(4)
        rings = 0
        for book in some_books(200, 4):
            arcs = some_arcs(rng, book, 4)
            ring = ways_by_hand(book, arcs) is None
            rings += ring
            self.check(book, arcs, ring)
        self.assertTrue(20 < rings < 180)


class Heads(unittest.TestCase):
    def test_by_from_alone(self):
        book = book_of_tasks([task("a", start=4), task("b", start=1000000), task("c")])
        self.assertEqual(heads(book, []), [4, 1000000, 0])

    def test_lengths_and_gaps(self):
        self.assertEqual(heads(line_book([4, 2, 1000, 1], [3, 0, 1000]), []), [0, 7, 9, 2009])

    def test_arcs(self):
        book = line_book([4, 2, 5], [3], starts=[1, 0, 0])
        self.assertEqual(heads(book, []), [1, 8, 0])
        self.assertEqual(heads(book, [(1, 2)]), [1, 8, 10])
        self.assertEqual(heads(book, [(0, 1), (0, 2)]), [1, 8, 5])
        self.assertEqual(heads(book, [(2, 0)]), [5, 12, 0])

    def test_from_that_is_later_or_earlier_than_what_goes_ahead(self):
        for start, head in ((6, 7), (7, 7), (8, 8)):
            self.assertEqual(heads(line_book([4, 2], [3], starts=[0, start]), []), [0, head])

    def test_fixed_ones(self):
        self.assertEqual(heads(line_book([4, 2, 1], [3, 0], fixed=[(0, 5)]), []), [5, 12, 14])
        self.assertEqual(heads(line_book([4, 2, 1], [3, 0], fixed=[(1, 20)]), []), [0, 20, 22])

    def test_a_fixed_one_that_comes_too_late(self):
        self.assertEqual(heads(line_book([4, 2, 1], [3, 0], fixed=[(1, 6)]), []), [0, 7, 9])
        self.assertEqual(heads(line_book([4, 2, 1], [3, 0], fixed=[(1, 7)]), []), [0, 7, 9])

    def test_of_two_ways_the_longer_one(self):
        book = plain_book(4, [(0, 1, 0), (0, 2, 6), (1, 3, 9), (2, 3, 0)], length=2)
        self.assertEqual(heads(book, []), [0, 2, 8, 13])
        self.assertEqual(heads(book, [(2, 1)]), [0, 10, 8, 21])

    def test_by_hand(self):
        rng = random.Random(6)
        for book in some_books(200, 6):
            arcs = some_arcs(rng, book, 3)
            ways = ways_by_hand(book, arcs)
            if ways is None:
                continue
            expected = []
            for k in range(len(book[2])):
                to_it = [way for way in ways if way[-1] == k]
                begins = [begin_by_hand(book, way[0]) + length_by_hand(book, arcs, way) for way in to_it]
                expected.append(max(begins) - book[2][k][1])
            self.assertEqual(heads(book, arcs), expected)


class Tails(unittest.TestCase):
    def test_own_tails(self):
        tasks = [task("a", due=5, weight=0), task("b", due=None, weight=1), task("c", due=0, weight=1000)]
        book = book_of_tasks(tasks)
        self.assertEqual(tails(book, [], "span"), [None, 0, 0])
        self.assertEqual(tails(book, [], "late"), [-5, None, 0])

    def test_lengths_and_gaps(self):
        book = line_book([4, 2, 1000, 1], [3, 0, 1000], dues=[None, None, None, 9])
        self.assertEqual(tails(book, [], "span"), [3 + 2 + 1000 + 1000 + 1, 2001, 1001, 0])
        self.assertEqual(tails(book, [], "late"), [1997, 1992, 992, -9])

    def test_the_greatest_of_its_own_and_of_those_behind(self):
        for due, tail in ((2, -2), (4, -4), (5, -5), (6, -5), (7, -5), (None, -5)):
            book = line_book([4, 2], [3], dues=[due, 10])
            self.assertEqual(tails(book, [], "late"), [tail, -10])

    def test_those_without_a_tail_behind(self):
        book = line_book([1, 2, 3], [1, 1], weights=[1, 0, 0], dues=[None, 7, None])
        self.assertEqual(tails(book, [], "span"), [0, None, None])
        self.assertEqual(tails(book, [], "late"), [-4, -7, None])
        book = line_book([1, 2, 3], [1, 1], weights=[0, 0, 1])
        self.assertEqual(tails(book, [], "span"), [7, 4, 0])
        self.assertEqual(tails(book, [], "late"), [None, None, None])

    def test_arcs(self):
        book = line_book([4, 2, 5], [3], weights=[1, 1, 0], dues=[None, None, 6])
        self.assertEqual(tails(book, [], "span"), [5, 0, None])
        self.assertEqual(tails(book, [(2, 0)], "span"), [5, 0, 9])
        self.assertEqual(tails(book, [(1, 2)], "late"), [4, -1, -6])
        self.assertEqual(tails(book, [(0, 2), (0, 1)], "late"), [-1, None, -6])

    def test_of_two_ways_the_longer_one(self):
        book = plain_book(4, [(0, 1, 0), (0, 2, 6), (1, 3, 9), (2, 3, 0)], length=2)
        self.assertEqual(tails(book, [], "span"), [13, 11, 2, 0])

    def test_fixed_ones_and_froms_have_no_part_in_it(self):
        book = line_book([4, 2], [3], starts=[50, 60], fixed=[(1, 100)])
        self.assertEqual(tails(book, [], "span"), [5, 0])

    def test_by_hand(self):
        rng = random.Random(7)
        for book in some_books(200, 7):
            arcs = some_arcs(rng, book, 3)
            ways = ways_by_hand(book, arcs)
            if ways is None:
                continue
            for worth in WORTHS:
                expected = []
                for k in range(len(book[2])):
                    from_it = [way for way in ways if way[0] == k and tail_by_hand(book, worth, way[-1]) is not None]
                    rests = [length_by_hand(book, arcs, way) + tail_by_hand(book, worth, way[-1]) for way in from_it]
                    expected.append(max(rests) - book[2][k][1] if rests else None)
                self.assertEqual(tails(book, arcs, worth), expected)


class Longest(unittest.TestCase):
    def check(self, book, arcs, worth, bound):
        told = longest(book, arcs, worth)
        self.assertIs(type(told), tuple)
        self.assertEqual(len(told), 2)
        self.assertEqual(told[0], bound)
        self.assertIs(type(told[1]), list)
        self.assertEqual(way_bound(book, arcs, worth, told[1]), bound)

    def test_one_way(self):
        book = line_book([4, 2, 1000, 1], [3, 0, 1000], dues=[None, None, None, 9])
        self.assertEqual(longest(book, [], "span"), (2010, [0, 1, 2, 3]))
        self.assertEqual(longest(book, [], "late"), (2001, [0, 1, 2, 3]))

    def test_one_task(self):
        book = book_of_tasks([task("a", 7, start=3, due=100)])
        self.assertEqual(longest(book, [], "span"), (10, [0]))
        self.assertEqual(longest(book, [], "late"), (-90, [0]))

    def test_a_way_that_begins_with_a_from_or_a_fixed_one(self):
        self.assertEqual(longest(line_book([4, 2, 1], [3, 0], starts=[0, 30, 0]), [], "span"), (33, [1, 2]))
        self.assertEqual(longest(line_book([4, 2, 1], [3, 0], fixed=[(1, 20)]), [], "span"), (23, [1, 2]))
        self.assertEqual(longest(line_book([4, 2, 1], [3, 0], fixed=[(1, 2)]), [], "span"), (10, [0, 1, 2]))

    def test_a_way_that_ends_ahead_of_others(self):
        book = line_book([4, 2, 1], [3, 0], weights=[1, 1, 0])
        self.assertEqual(longest(book, [], "span"), (9, [0, 1]))
        book = line_book([4, 2, 1], [3, 0], dues=[None, 1, 90])
        self.assertEqual(longest(book, [], "late"), (8, [0, 1]))

    def test_by_arcs(self):
        book = line_book([4, 2, 5], [3], starts=[1, 0, 0])
        self.assertEqual(longest(book, [(1, 2)], "span"), (15, [0, 1, 2]))
        self.assertEqual(longest(book, [(2, 0)], "span"), (14, [2, 0, 1]))

    def test_no_task_that_counts(self):
        book = line_book([4, 2], [3], weights=[0, 0])
        self.assertEqual(longest(plain_book(2, weight=0), [], "span"), None)
        self.assertIsNone(longest(book, [(0, 1)], "late"))

    def test_by_hand(self):
        rng = random.Random(9)
        for book in some_books(250, 9):
            arcs = some_arcs(rng, book, 3)
            ways = ways_by_hand(book, arcs)
            for worth in WORTHS:
                ended = [way for way in ways or [] if tail_by_hand(book, worth, way[-1]) is not None]
                if not ended:
                    self.assertIsNone(longest(book, arcs, worth))
                    continue
                bound = max([begin_by_hand(book, way[0]) + length_by_hand(book, arcs, way)
                             + tail_by_hand(book, worth, way[-1]) for way in ended])
                self.check(book, arcs, worth, bound)
                starts, rests = heads(book, arcs), tails(book, arcs, worth)
                sums = [starts[k] + book[2][k][1] + rests[k] for k in range(len(starts)) if rests[k] is not None]
                self.assertEqual(bound, max(sums))


class ManyWays(unittest.TestCase):
    """Thirty tasks, each ahead of each later one: hundreds of millions of ways."""

    def test_thirty_tasks(self):
        book, arcs, order = full_net(30)
        gaps = gaps_by_hand(book, arcs)
        starts, rests = [0] * 30, [0] * 30
        for at, number in enumerate(order):
            ends = [starts[one] + one + 1 + gaps[(one, number)] for one in order[:at]]
            starts[number] = max(ends + [0])
        for at in range(29, -1, -1):
            number = order[at]
            behind = [gaps[(number, one)] + one + 1 + rests[one] for one in order[at + 1:]]
            rests[number] = max(behind + [-40 - number])
        with within(60):
            self.assertEqual(heads(book, arcs), starts)
            self.assertEqual(tails(book, arcs, "late"), rests)
            self.assertIs(is_ring(book, arcs), False)
            bound, way = longest(book, arcs, "late")
            self.assertEqual(bound, max(starts[k] + k + 1 + rests[k] for k in range(30)))
            self.assertEqual(way_bound(book, arcs, "late", way), bound)
            self.assertEqual(longest(book, arcs, "span")[0], sum(range(1, 31)) + sum(gaps[p] for p in zip(order, order[1:])))

    def test_with_a_ring_at_the_end(self):
        book, arcs, order = full_net(30)
        ring = arcs[:899] + [(order[29], order[28])]
        with within(60):
            self.assertIs(is_ring(book, ring), True)
            self.assertIsNone(heads(book, ring))
            self.assertIsNone(tails(book, ring, "span"))
            self.assertIsNone(longest(book, ring, "late"))
            self.assertIsNone(way_bound(book, ring, "span", [order[0]]))

    def test_in_whatever_order_they_are_told(self):
        rng = random.Random(12)
        pairs = some_pairs(rng, 30, 700)
        waits = [(a, b, rng.randint(0, 9)) for a, b in pairs[:60]]
        told = []
        with within(60):
            for _ in range(4):
                rng.shuffle(pairs)
                rng.shuffle(waits)
                book = plain_book(30, waits, length=3)
                told.append((heads(book, pairs), tails(book, pairs, "span"), longest(book, pairs, "span")[0]))
        self.assertEqual(told, told[:1] * 4)


if __name__ == "__main__":
    unittest.main()
