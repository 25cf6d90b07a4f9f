"""Errors: the refusals and their fields (the interface's errors.py)."""

import unittest

from boundsmith import errors
from boundsmith.errors import (
    BadArcs, BadBook, BadDeed, BadLine, BadMost, BadPaper, BadPlan, BadRows, BadTasks, BadText, BadWorth, NoDeed,
    NoPlan, PlanError)
from tests.samples import deep, things

FIELDS = ((BadBook, "what"), (BadText, "line"), (NoPlan, "paper"))
OF_A_TEXT = (BadArcs, BadPlan, BadRows, BadWorth, BadTasks, BadPaper, BadMost, NoDeed, BadDeed, BadLine)


class Classes(unittest.TestCase):
    def test_plan_error_is_straight_under_value_error(self):
        self.assertEqual(PlanError.__bases__, (ValueError,))
        self.assertIsInstance(PlanError("no"), ValueError)

    def test_each_is_straight_under_plan_error(self):
        for one in OF_A_TEXT + tuple(one for one, _ in FIELDS):
            with self.subTest(one=one.__name__):
                self.assertEqual(one.__bases__, (PlanError,))

    def test_none_is_another_one(self):
        every = OF_A_TEXT + tuple(one for one, _ in FIELDS)
        for one in every:
            for other in every:
                with self.subTest(one=one.__name__, other=other.__name__):
                    self.assertEqual(issubclass(one, other), one is other)

    def test_each_stands_in_its_file_under_its_name(self):
        for one in OF_A_TEXT + (PlanError,) + tuple(one for one, _ in FIELDS):
            self.assertEqual(one.__module__, "boundsmith.errors")
            self.assertIs(getattr(errors, one.__name__), one)

    def test_made_of_a_text_and_raised(self):
        for one in OF_A_TEXT:
            with self.subTest(one=one.__name__):
                with self.assertRaises(one):
                    raise one("a text")
                with self.assertRaises(PlanError):
                    raise one("a text")
                with self.assertRaises(ValueError):
                    raise one("")


class Fields(unittest.TestCase):
    def test_the_field_is_what_it_was_made_of(self):
        for one, field in FIELDS:
            for thing in things() + ["form", "ring", 7, ("way", (0, 1)), ("cases", (0, 1), (("way", (0,)),))]:
                with self.subTest(one=one.__name__, thing=str(thing)[:40]):
                    told = getattr(one(thing), field)
                    self.assertEqual(told, thing)
                    self.assertIs(type(told), type(thing))

    def test_each_object_has_its_own_field(self):
        for one, field in FIELDS:
            first, second = one("a"), one("b")
            self.assertEqual((getattr(first, field), getattr(second, field)), ("a", "b"))

    def test_what_is_handed_in_is_not_changed(self):
        for one, _ in FIELDS:
            thing = [1, ([2], {3: [4]}), deep("list", 150)]
            one(thing)
            self.assertEqual(thing, [1, ([2], {3: [4]}), deep("list", 150)])

    def test_what_is_handed_in_is_not_kept_as_it_is(self):
        for one, field in FIELDS:
            thing = [1, ([2], {3: [4]})]
            error = one(thing)
            thing[1][0].append(5)
            thing[1][1][3].append(6)
            thing.append(7)
            self.assertEqual(getattr(error, field), [1, ([2], {3: [4]})])

    def test_raised_with_the_field(self):
        for one, field in FIELDS:
            with self.assertRaises(PlanError) as caught:
                raise one((1, "x"))
            self.assertEqual(getattr(caught.exception, field), (1, "x"))


if __name__ == "__main__":
    unittest.main()
