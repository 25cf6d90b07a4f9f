"""Worths that count (the interface's worths.py)."""

import copy
import unittest

from boundsmith.worths import need_counted
from tests.samples import NAMES, book_of_tasks, name_of_error, shop_book, task, things

WORTHS = ("span", "late")


def counted_book(weights, dues):
    return book_of_tasks([task(NAMES[k], weight=weight, due=due) for k, (weight, due) in enumerate(zip(weights, dues))])


class NeedCounted(unittest.TestCase):
    def refused(self, book, worth):
        self.assertEqual(name_of_error(need_counted, book, worth), "BadWorth", str(worth)[:50])

    def test_one_task_counts(self):
        for weights in ((0, 0, 1), (1, 0, 0), (0, 1000, 0)):
            self.assertIsNone(need_counted(counted_book(weights, (None,) * 3), "span"))
        for dues in ((None, None, 0), (1000000, None, None), (None, 5, None)):
            self.assertIsNone(need_counted(counted_book((0,) * 3, dues), "late"))

    def test_all_count(self):
        for worth in WORTHS:
            self.assertIsNone(need_counted(counted_book((1, 2), (3, 4)), worth))
            self.assertIsNone(need_counted(shop_book(), worth))

    def test_none_counts(self):
        self.refused(counted_book((0, 0, 0), (None,) * 3), "span")
        self.refused(counted_book((0, 0, 0), (1, 2, 3)), "span")
        self.refused(counted_book((0, 0, 0), (None,) * 3), "late")
        self.refused(counted_book((1, 2, 3), (None,) * 3), "late")
        self.refused(counted_book((0,), (0,)), "span")
        self.refused(counted_book((1,), (None,)), "late")

    def test_none_counts_though_one_that_counts_not_goes_ahead(self):
        book = book_of_tasks([task("a", weight=0), task("b", weight=0)], waits=[(0, 1, 5)], fixed=[(0, 7)])
        for worth in WORTHS:
            self.refused(book, worth)

    def test_all_other_things(self):
        kinds = things() + ["count", "sum", "Span", "span ", " late", "lates", "LATE", ("span",), ["late"], {"span": 1}]
        for worth in kinds:
            self.refused(shop_book(), worth)
            self.refused(counted_book((0,), (None,)), worth)

    def test_what_is_handed_in_stays(self):
        for worth in (["span"], {"late": [1]}):
            before = copy.deepcopy(worth)
            self.refused(shop_book(), worth)
            self.assertEqual(worth, before)


if __name__ == "__main__":
    unittest.main()
