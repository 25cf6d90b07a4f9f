"""Books (points 1, 3 and 4; the interface's books.py)."""

import copy
import itertools
import unittest

from boundsmith.books import ahead_of, gap_of, need_book
from boundsmith.errors import BadBook
from tests.samples import (
    NAMES, book_of_tasks, deep, error_of, plain_book, put, shop_book, some_books, task, things)

OTHER_KINDS = [None, True, False, "", "a", "1", 10 ** 999, [], [1], {}, {0: 1}, deep("list", 150), deep("dict", 150)]
NO_TUPLES = OTHER_KINDS + [0, 1, -1]


def word_of(thing):
    """The word by which a book is refused, None of one that is let by."""
    error = error_of(need_book, thing)
    if error is None:
        return None
    assert type(error) is BadBook, error
    return error.what


class Form(unittest.TestCase):
    def check(self, path, value, word):
        with self.subTest(path=path, value=str(value)[:60]):
            self.assertEqual(word_of(put(shop_book(), path, value)), word)

    def check_numbers(self, path, least, most):
        for value in (least, most):
            self.check(path, value, None)
        for value in (least - 1, most + 1, 10 ** 999, -(10 ** 999), True, False, "1", "", [least], (least,), {}):
            self.check(path, value, "form")

    def check_names(self, path, fitting):
        for value in fitting:
            self.check(path, value, None)
        for value in ("Saw", "abcdefghi", "a b", "a1", "-", "saw\n", None, True, 0, 5, ["saw"], ("saw",), {}):
            self.check(path, value, "form")

    def test_a_book_is_let_by_and_nothing_told(self):
        self.assertIsNone(need_book(shop_book()))
        self.assertIsNone(need_book(book_of_tasks([task()])))
        for book in some_books(200):
            self.assertIsNone(need_book(book))

    def test_things_of_any_kind(self):
        for thing in things() + [deep("tuple", 149), ((), (), (), (), ()), (1, 2, 3, 4, 5)]:
            self.assertEqual(word_of(thing), "form", str(thing)[:60])

    def test_parts_more_or_fewer(self):
        book = shop_book()
        self.assertEqual(word_of(book[:4]), "form")
        self.assertEqual(word_of(book + ((),)), "form")
        self.assertEqual(word_of(book[1:]), "form")
        for path in ((1, 0), (2, 0), (2, 0, 3, 0), (3, 0), (4, 0)):
            part = book
            for at in path:
                part = part[at]
            self.check(path, part[:-1], "form")
            self.check(path, part[1:], "form")
            self.check(path, part + (0,), "form")
            self.check(path, part + (part[-1],), "form")
            self.check(path, (), "form")

    def test_a_list_in_a_tuples_place(self):
        book = shop_book()
        self.assertEqual(word_of(list(book)), "form")
        for path in ((0,), (1,), (2,), (3,), (4,), (1, 0), (2, 0), (2, 0, 3), (2, 2, 3), (2, 0, 3, 0), (3, 1), (4, 0)):
            part = book
            for at in path:
                part = part[at]
            self.check(path, list(part), "form")

    def test_another_kind_in_a_tuples_place(self):
        for path in ((0,), (1,), (2,), (3,), (4,), (1, 0), (2, 0), (2, 0, 3), (2, 0, 3, 0), (3, 1), (4, 0)):
            for value in NO_TUPLES:
                self.check(path, value, "form")

    def test_machines(self):
        self.check_names((0, 1), ["press"])
        self.check((0, 1), "", "form")
        book = book_of_tasks([task()])
        for name in ("a", "abcdefgh", "machine", "task"):
            self.assertIsNone(word_of(put(book, (0,), (name,))))
        self.assertIsNone(word_of(put(book, (0,), tuple(NAMES[:6]))))
        self.assertEqual(word_of(put(book, (0,), tuple(NAMES[:7]))), "form")

    def test_goods(self):
        self.check_names((1, 1, 0), ["crew"])
        self.check((1, 1, 0), "", "form")
        book = book_of_tasks([task()])
        goods = tuple((name, 1) for name in NAMES)
        self.assertIsNone(word_of(put(book, (1,), goods[:4])))
        self.assertEqual(word_of(put(book, (1,), goods[:5])), "form")
        for many, word in ((0, "form"), (1, None), (99, None), (100, "form"), (True, "form"), (None, "form")):
            self.assertEqual(word_of(put(book, (1,), (("oil", many),))), word, many)
        self.check((1, 0, 1), 10 ** 999, "form")
        self.check((1, 0, 1), "3", "form")

    def test_a_good_may_have_a_machines_name_and_a_tasks(self):
        book = book_of_tasks([task("saw", 1, "saw", (("saw", 1),))], ["saw"], [("saw", 1)])
        self.assertIsNone(word_of(book))

    def test_how_many_tasks(self):
        self.assertEqual(word_of(book_of_tasks([])), "form")
        self.assertIsNone(word_of(plain_book(1)))
        self.assertIsNone(word_of(plain_book(30)))
        self.assertEqual(word_of(plain_book(31)), "form")

    def test_tasks(self):
        self.check_names((2, 0, 0), ["cut", "a", "abcdefgh", "saw", "oil"])
        self.check((2, 0, 0), "", "form")
        self.check_numbers((2, 0, 1), 1, 1000)
        self.check_names((2, 0, 2), ["saw", "press", ""])
        self.check_numbers((2, 0, 4), 0, 1000000)
        self.check((2, 0, 5), None, None)
        self.check_numbers((2, 0, 5), 0, 1000000)
        self.check_numbers((2, 0, 6), 0, 1000)
        for path in ((2, 0, 1), (2, 0, 4), (2, 0, 6)):
            self.check(path, None, "form")

    def test_needs(self):
        self.check((2, 0, 3), (), None)
        self.check((2, 0, 3), (("oil", 3), ("crew", 2)), None)
        for good in (None, True, 5, ["oil"], ("oil",), {}):
            self.check((2, 0, 3, 0, 0), good, "form")
        for many, word in ((0, "form"), (1, None), (3, None), (100, "form"), (True, "form"), (None, "form"), ("1", "form")):
            self.check((2, 0, 3, 0, 1), many, word)
        book = book_of_tasks([task(needs=(("oil", 99),))], goods=[("oil", 99)])
        self.assertIsNone(word_of(book))

    def test_waits(self):
        self.check_numbers((3, 0, 2), 0, 1000)
        self.check((3, 0, 2), None, "form")
        for place in (0, 1):
            for value in (-1, 1000001, 10 ** 999, None, True, "0", [0]):
                self.check((3, 0, place), value, "form")
            self.check((3, 0, place), 1000000, "unknown")
        self.check((3, 0), (1, 1, 0), "form")
        self.check((3, 0), (70, 70, 0), "form")
        self.assertIsNone(word_of(plain_book(2, [(0, 1, 0)] * 60)))
        self.assertEqual(word_of(plain_book(2, [(0, 1, 0)] * 61)), "form")

    def test_fixed(self):
        self.check((4, 0, 1), 1, None)
        self.check((4, 0, 1), 1000000, None)
        for value in (-1, 1000001, 10 ** 999, None, True, "6", [6]):
            self.check((4, 0, 1), value, "form")
        for value in (-1, 1000001, 10 ** 999, None, True, "1", [1]):
            self.check((4, 0, 0), value, "form")
        self.check((4, 0, 0), 1000000, "unknown")
        self.assertIsNone(word_of(plain_book(30, (), [(k, 0) for k in range(30)])))
        self.assertEqual(word_of(plain_book(30, (), [(k % 30, 0) for k in range(31)])), "form")


class Words(unittest.TestCase):
    def test_twice(self):
        book = shop_book()
        self.assertEqual(word_of(put(book, (0,), ("saw", "press", "saw"))), "twice")
        self.assertEqual(word_of(put(book, (1,), book[1] + (("oil", 9),))), "twice")
        self.assertEqual(word_of(put(book, (2, 3, 0), "cut")), "twice")
        self.assertEqual(word_of(put(book, (2, 0, 3), (("oil", 1), ("crew", 1), ("oil", 2)))), "twice")
        self.assertEqual(word_of(put(book, (2, 3, 3), (("crew", 1), ("crew", 1)))), "twice")
        self.assertEqual(word_of(put(book, (4,), ((1, 6), (0, 5), (1, 6)))), "twice")
        self.assertEqual(word_of(put(book, (4,), ((1, 6), (1, 7)))), "twice")

    def test_the_same_good_in_two_tasks_is_not_twice(self):
        self.assertIsNone(word_of(shop_book()))

    def test_unknown(self):
        book = shop_book()
        self.assertEqual(word_of(put(book, (2, 3, 2), "drill")), "unknown")
        self.assertEqual(word_of(put(book, (2, 3, 2), "oil")), "unknown")
        self.assertEqual(word_of(put(book, (2, 3, 3), (("wood", 1),))), "unknown")
        self.assertEqual(word_of(put(book, (2, 3, 3), (("saw", 1),))), "unknown")
        for value, word in ((3, None), (4, "unknown"), (5, "unknown"), (1000000, "unknown")):
            self.assertEqual(word_of(put(book, (3, 0), (0, value, 1))), word)
            self.assertEqual(word_of(put(book, (3,), ((value, 0, 1),))), word)
            self.assertEqual(word_of(put(book, (4,), ((value, 6),))), word)

    def test_many(self):
        book = shop_book()
        self.assertIsNone(word_of(put(book, (2, 2, 3), (("oil", 3), ("crew", 2)))))
        self.assertEqual(word_of(put(book, (2, 2, 3), (("oil", 4),))), "many")
        self.assertEqual(word_of(put(book, (2, 2, 3), (("oil", 3), ("crew", 3)))), "many")
        self.assertEqual(word_of(put(book, (2, 3, 3), (("oil", 99),))), "many")

    def test_early(self):
        book = put(shop_book(), (2, 2, 4), 12)
        self.assertIsNone(word_of(put(book, (4,), ((2, 12),))))
        self.assertEqual(word_of(put(book, (4,), ((2, 11),))), "early")
        self.assertEqual(word_of(put(book, (4,), ((1, 6), (2, 0)))), "early")

    def test_rings(self):
        self.assertEqual(word_of(plain_book(2, [(0, 1, 0), (1, 0, 0)])), "ring")
        self.assertEqual(word_of(plain_book(2, [(1, 0, 5), (0, 1, 7)])), "ring")
        self.assertEqual(word_of(plain_book(3, [(2, 1, 0), (1, 0, 0), (0, 2, 0)])), "ring")
        around = [(k, (k + 1) % 30, 0) for k in range(30)]
        self.assertEqual(word_of(plain_book(30, around)), "ring")
        self.assertEqual(word_of(plain_book(30, [(b, a, 3) for a, b, _ in around])), "ring")
        self.assertEqual(word_of(plain_book(5, [(0, 1, 0), (1, 2, 0), (2, 3, 0), (3, 2, 0), (3, 4, 0)])), "ring")
        self.assertEqual(word_of(plain_book(30, [(28, 29, 0), (29, 28, 0)])), "ring")

    def test_chains_are_no_rings(self):
        chain = [(k, k + 1, 0) for k in range(29)]
        self.assertIsNone(word_of(plain_book(30, chain)))
        self.assertIsNone(word_of(plain_book(30, [(b, a, 0) for a, b, _ in chain])))
        self.assertIsNone(word_of(plain_book(30, chain + [(0, 29, 5), (3, 20, 0)] + chain[:20])))
        self.assertIsNone(word_of(plain_book(4, [(0, 1, 0), (0, 2, 0), (1, 3, 0), (2, 3, 0), (0, 3, 0)])))

    def test_several_waits_of_one_pair_are_no_ring(self):
        self.assertIsNone(word_of(plain_book(2, [(0, 1, 0), (0, 1, 4), (0, 1, 0)])))


def lose_form(book):
    return put(book, (2, 2, 1), 0)


def tell_twice(book):
    return put(book, (0,), ("saw", "press", "saw"))


def name_unknown(book):
    return put(book, (4,), book[4] + ((9, 3),))


def need_many(book):
    return put(book, (2, 3, 3), (("crew", 3),))


def fix_early(book):
    return put(put(book, (2, 2, 4), 12), (4,), ((2, 11),) + book[4])


def go_round(book):
    return put(book, (3,), book[3] + ((3, 1, 0),))


SPOILS = (("form", lose_form), ("twice", tell_twice), ("unknown", name_unknown), ("many", need_many),
          ("early", fix_early), ("ring", go_round))


class FirstWord(unittest.TestCase):
    def test_each_by_itself(self):
        for word, spoil in SPOILS:
            self.assertEqual(word_of(spoil(shop_book())), word)

    def test_of_two_the_first_one_is_told(self):
        for (first, one), (second, other) in itertools.combinations(SPOILS, 2):
            with self.subTest(first=first, second=second):
                self.assertEqual(word_of(one(other(shop_book()))), first)
                self.assertEqual(word_of(other(one(shop_book()))), first)

    def test_of_all_the_first_one_is_told(self):
        for at in range(len(SPOILS)):
            book = shop_book()
            for _, spoil in SPOILS[at:]:
                book = spoil(book)
            self.assertEqual(word_of(book), SPOILS[at][0])

    def test_other_unknown_ones_stand_ahead_of_what_comes_behind(self):
        book = need_many(fix_early(go_round(shop_book())))
        self.assertEqual(word_of(put(book, (2, 0, 3), (("wood", 1),))), "unknown")
        self.assertEqual(word_of(put(book, (2, 0, 2), "drill")), "unknown")
        self.assertEqual(word_of(put(book, (3,), book[3] + ((0, 30, 1),))), "unknown")
        self.assertEqual(word_of(put(book, (3,), book[3] + ((30, 0, 1),))), "unknown")

    def test_asked_again_the_same_is_told(self):
        for _, spoil in SPOILS:
            book = spoil(shop_book())
            self.assertEqual(word_of(book), word_of(book))


class Waits(unittest.TestCase):
    def test_ahead_of(self):
        self.assertEqual(ahead_of(shop_book()), [[], [], [0], [1]])
        self.assertEqual(ahead_of(plain_book(1)), [[]])
        waits = [(3, 0, 1), (2, 0, 0), (3, 0, 5), (1, 0, 0), (2, 3, 0), (1, 3, 9), (3, 0, 1)]
        self.assertEqual(ahead_of(plain_book(4, waits)), [[1, 2, 3], [], [], [1, 2]])

    def test_ahead_of_thirty(self):
        waits = [(k, 29, 0) for k in range(28, -1, -1)] + [(k, k + 1, 0) for k in range(28)]
        expected = [[]] + [[k - 1] for k in range(1, 29)] + [list(range(29))]
        self.assertEqual(ahead_of(plain_book(30, waits)), expected)

    def test_rising_whatever_the_numbers(self):
        for ahead in ((8, 1), (16, 8), (27, 19, 11, 3), (24, 16, 9, 1, 0)):
            book = plain_book(30, [(one, 29, 0) for one in ahead])
            self.assertEqual(ahead_of(book)[29], sorted(ahead))

    def test_only_those_right_ahead(self):
        self.assertEqual(ahead_of(plain_book(3, [(0, 1, 0), (1, 2, 0)])), [[], [0], [1]])

    def test_ahead_of_is_the_askers_own(self):
        book = shop_book()
        told = ahead_of(book)
        told[2].append(7)
        told.pop()
        self.assertEqual(ahead_of(book), [[], [], [0], [1]])
        self.assertEqual(book, shop_book())

    def test_gap_of(self):
        book = shop_book()
        self.assertEqual(gap_of(book, 0, 2), 3)
        self.assertEqual(gap_of(book, 1, 3), 0)
        for a, b in ((2, 0), (3, 1), (0, 1), (0, 3), (1, 2), (2, 3)):
            self.assertIsNone(gap_of(book, a, b))

    def test_gap_of_several_is_the_greatest(self):
        for gaps in itertools.permutations((0, 7, 1000)):
            book = plain_book(3, [(0, 1, gap) for gap in gaps] + [(1, 2, 5), (0, 2, 6)])
            self.assertEqual(gap_of(book, 0, 1), 1000)
            self.assertEqual(gap_of(book, 1, 2), 5)
            self.assertEqual(gap_of(book, 0, 2), 6)

    def test_nothing_is_changed(self):
        for thing in (shop_book(), [1, [2]], {"a": [1]}, ([1], [2], [3], [4], [5])):
            before = copy.deepcopy(thing)
            error_of(need_book, thing)
            self.assertEqual(thing, before)


if __name__ == "__main__":
    unittest.main()
