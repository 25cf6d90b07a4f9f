"""Like machines (point 45; the interface's likes.py)."""

import copy
import random
import unittest

from boundsmith.likes import parted_span
from tests.samples import error_of, name_of_error, things, within


def some_lengths(rng, most=8, length=12):
    return [rng.randint(1, length) for _ in range(rng.randint(1, most))]


class Refused(unittest.TestCase):
    def test_what_is_no_number_of_machines(self):
        bad = [0, 7, -1, 8, 1000000, True, False, "1", "", (1,), [1], 10 ** 999]
        for machines in bad + [thing for thing in things() if thing != 1 or thing is True]:
            for rows in ([1], [1, 2], [], None, [0], (1,)):
                self.assertEqual(name_of_error(parted_span, machines, rows), "BadTasks", str(machines)[:50])

    def test_one_machine_and_six(self):
        for machines in range(1, 7):
            self.assertIsNone(error_of(parted_span, machines, [1, 2, 3]))

    def refused(self, rows):
        for machines in (1, 2, 6):
            self.assertEqual(name_of_error(parted_span, machines, rows), "BadRows", str(rows)[:50])

    def test_what_are_no_rows(self):
        for thing in things():
            self.refused(thing)
            if thing != 1 or thing is True:
                self.refused([thing])
                self.refused([1, thing, 2])
        for rows in ((1,), (1, 2), "12", {1: 1}, [[1]], [(1,)], [1, "1"], [1, None], [True], [1, False]):
            self.refused(rows)

    def test_lengths_at_their_bounds(self):
        for length in (1, 2, 999, 1000):
            self.assertIsNone(error_of(parted_span, 3, [length, 1]))
        for length in (0, -1, 1001, 10 ** 999):
            self.refused([length])
            self.refused([1, length])

    def test_one_row_and_thirty(self):
        self.refused([])
        self.refused([1] * 31)
        for many in (1, 2, 29, 30):
            self.assertIsNone(error_of(parted_span, 6, [5] * many))


class Own(unittest.TestCase):
    def test_what_is_handed_in_stays(self):
        for rows in ([3, 1, 2], [1] * 31, [1, [2]]):
            before = copy.deepcopy(rows)
            error_of(parted_span, 2, rows)
            self.assertEqual(rows, before)

    def test_what_is_told_is_the_askers_own(self):
        rows = [4, 3, 2]
        told = parted_span(2, rows)
        before = copy.deepcopy(told)
        told[1].append(5)
        told[1][0] = 9
        self.assertEqual(parted_span(2, rows), before)

    def test_kinds(self):
        told = parted_span(2, [4, 3, 2])
        self.assertEqual([type(part) for part in (told,) + told], [tuple, int, list, tuple])
        self.assertEqual({type(piece) for piece in told[1]}, {tuple})

    def test_asked_again_the_same_is_told(self):
        rng = random.Random(1)
        for _ in range(50):
            rows, machines = some_lengths(rng), rng.randint(1, 6)
            self.assertEqual(parted_span(machines, rows), parted_span(machines, list(rows)))


class Told(unittest.TestCase):
    def test_one_machine(self):
        self.assertEqual(parted_span(1, [3, 1, 2])[::2], (6, ("all",)))
        self.assertEqual(parted_span(1, [5]), (5, [(0, 0, 0, 5)], ("one", 0)))

    def test_one_row_is_the_span(self):
        self.assertEqual(parted_span(3, [2, 9, 3])[::2], (9, ("one", 1)))
        self.assertEqual(parted_span(6, [2, 9, 3])[::2], (9, ("one", 1)))
        self.assertEqual(parted_span(6, [1000])[::2], (1000, ("one", 0)))

    def test_one_row_is_just_the_span(self):
        self.assertEqual(parted_span(2, [4, 3, 1])[::2], (4, ("one", 0)))
        self.assertEqual(parted_span(2, [4, 3, 2])[::2], (5, ("all",)))

    def test_the_first_row_with_that_length(self):
        self.assertEqual(parted_span(4, [2, 7, 3, 7, 7])[::2], (7, ("one", 1)))
        self.assertEqual(parted_span(3, [4, 4, 4])[::2], (4, ("one", 0)))

    def test_rounded_up(self):
        for total, span in ((9, 3), (10, 4), (11, 4), (12, 4), (13, 5)):
            self.assertEqual(parted_span(3, [1] * total)[::2], (span, ("all",)))
        self.assertEqual(parted_span(6, [1] * 6)[::2], (1, ("one", 0)))
        self.assertEqual(parted_span(6, [1] * 7)[::2], (2, ("all",)))

    def test_a_row_between_two_machines(self):
        span, pieces, why = parted_span(2, [2, 2, 2])
        self.assertEqual((span, why), (3, ("all",)))
        self.check(2, [2, 2, 2])
        self.assertGreater(len(pieces), 3)

    def check(self, machines, rows):
        """Hold what is told against the words of the document, hour by hour."""
        span, pieces, why = parted_span(machines, rows)
        self.assertEqual(span, max(max(rows), -(-sum(rows) // machines)))
        self.assertEqual(why, ("one", rows.index(max(rows))) if span == max(rows) else ("all",))
        self.assertEqual(pieces, sorted(pieces))
        hours = [(machine, k, hour) for machine, k, first, behind in pieces for hour in range(first, behind)]
        self.assertEqual(sorted(k for _, k, _ in hours), sorted(k for k, length in enumerate(rows) for _ in range(length)))
        self.assertEqual(len({(machine, hour) for machine, _, hour in hours}), len(hours))
        self.assertEqual(len({(k, hour) for _, k, hour in hours}), len(hours))
        for machine, k, first, behind in pieces:
            self.assertTrue(0 <= machine < machines and 0 <= first < behind <= span)
            self.assertNotIn((machine, k, behind), [piece[:3] for piece in pieces])
        return len(pieces) - len(rows)

    def test_pieces(self):
        rng = random.Random(2)
        broken = 0
        for _ in range(400):
            broken += self.check(rng.randint(1, 6), some_lengths(rng, 9)) > 0
        self.assertGreater(broken, 100)

    def test_of_the_greatest(self):
        rng = random.Random(3)
        with within(60):
            for machines in range(1, 7):
                self.check(machines, some_lengths(rng, 30, 1000))
                self.check(machines, [1000] * 30)
                self.check(machines, [1] * 30)
                self.check(machines, [1000] + [999] * 5)


if __name__ == "__main__":
    unittest.main()
