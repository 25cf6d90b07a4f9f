"""Names and whole numbers (points 1, 2 and 5; the interface's names.py)."""

import unittest

from boundsmith.names import is_among, is_name, is_whole, number_of
from tests.samples import deep, things

NO_NUMBERS = [
    None, True, False, "", "1", "a", [], [1], (), (1,), ((1,),), {}, {1: 1}, deep("list", 150), deep("tuple", 150),
    deep("dict", 150),
]


class Whole(unittest.TestCase):
    def test_whole_numbers(self):
        for number in (0, 1, -1, 7, 1000000, 10 ** 9, 10 ** 999, -(10 ** 999)):
            self.assertIs(is_whole(number), True)

    def test_true_and_false_and_other_kinds_are_none(self):
        for thing in NO_NUMBERS:
            self.assertIs(is_whole(thing), False, thing)


class Among(unittest.TestCase):
    def test_at_the_bounds_and_beyond(self):
        for least, most in ((0, 0), (1, 99), (-5, -2), (0, 10 ** 999)):
            self.assertIs(is_among(least, least, most), True)
            self.assertIs(is_among(most, least, most), True)
            self.assertIs(is_among(least - 1, least, most), False)
            self.assertIs(is_among(most + 1, least, most), False)

    def test_between(self):
        self.assertIs(is_among(50, 1, 99), True)
        self.assertIs(is_among(10 ** 999, 1, 99), False)
        self.assertIs(is_among(-(10 ** 999), 1, 99), False)

    def test_none_is_among_none(self):
        for number in (4, 5, 6):
            self.assertIs(is_among(number, 6, 4), False)

    def test_other_kinds_are_not(self):
        for thing in NO_NUMBERS:
            self.assertIs(is_among(thing, -10, 10), False, thing)


class Name(unittest.TestCase):
    def test_each_small_letter_is_one(self):
        for letter in "abcdefghijklmnopqrstuvwxyz":
            self.assertIs(is_name(letter), True)
            self.assertIs(is_name("saw" + letter), True)

    def test_as_long_as_can_be(self):
        self.assertIs(is_name(""), False)
        for many in range(1, 9):
            self.assertIs(is_name("z" * many), True)
        self.assertIs(is_name("abcdefgh"), True)
        self.assertIs(is_name("abcdefghi"), False)
        self.assertIs(is_name("z" * 20000), False)

    def test_the_words_of_rows_are_names(self):
        for word in ("machine", "good", "task", "wait", "fixed"):
            self.assertIs(is_name(word), True)

    def test_no_other_sign(self):
        letters = "abcdefghijklmnopqrstuvwxyz"
        others = [chr(code) for code in range(32, 127) if chr(code) not in letters] + ["\n"]
        for sign in others:
            for text in (sign, "a" + sign, sign + "a", "a" + sign + "b"):
                self.assertIs(is_name(text), False, text)

    def test_other_kinds_are_none(self):
        for thing in things():
            if thing != "a":
                self.assertIs(is_name(thing), False, thing)
        for thing in (["a"], ("a",), {"a": "a"}, ["a", "b"], ("s", "a", "w")):
            self.assertIs(is_name(thing), False, thing)


class Number(unittest.TestCase):
    def test_what_is_written(self):
        for number in (0, 1, 9, 10, 42, 100, 999, 1000000, 1000001, 1234567, 9999999):
            told = number_of(str(number))
            self.assertEqual(told, number)
            self.assertIs(type(told), int)

    def test_eight_figures_are_too_many(self):
        for word in ("10000000", "99999999", "123456789", "1" * 1000):
            self.assertIsNone(number_of(word))

    def test_no_nought_ahead(self):
        for word in ("00", "01", "007", "0000000", "0000001", "00000000"):
            self.assertIsNone(number_of(word))

    def test_other_words_write_none(self):
        words = ["", " ", "-", "-1", "-0", "+1", " 1", "1 ", "1 2", "1_0", "1.0", "1e3", "0x1", "a", "1a", "a1", "\n"]
        for word in words + ["1\n", "\n1", "1,000", "one", "1:1"]:
            self.assertIsNone(number_of(word), word)


if __name__ == "__main__":
    unittest.main()
