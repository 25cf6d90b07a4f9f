"""Papers that are kept (points 95 and 96; the interface's keeping.py)."""

import copy
import random
import unittest

from boundsmith.errors import NoPlan
from boundsmith.keeping import Papers, is_harder
from boundsmith.papers import fault_in, shows
from boundsmith.search import best_plan
from tests.samples import (
    book_of_tasks, counts, deep, name_of_error, plain_book, put, shop_book, some_books, task, things, tight_books)
from tests.test_papers import cases, saw_book
from tests.test_search import gaps_book

CROWD = ("crowd", (0, 1))
BAD_NUMBERS = [0, -1, 10 ** 999, True, False, None, "1", "", [1], (1,), {}, {1: 1}, deep("list", 150), b"1"]


def hard_book():
    """A book with something in each of its parts."""
    return (
        ("saw", "press"),
        (("oil", 3), ("crew", 2)),
        (
            ("cut", 4, "saw", (("oil", 2),), 1, 9, 5),
            ("trim", 2, "saw", (("crew", 1), ("oil", 1)), 1, None, 0),
            ("bend", 3, "press", (), 2, 20, 7),
        ),
        ((0, 2, 3), (1, 2, 1), (0, 2, 1)),
        ((1, 6), (2, 30)),
    )


TASK = ("more", 1, "", (), 0, None, 0)

HARDER = [
    ((1, 0, 1), 2), ((1, 1, 1), 1), ((1,), (("oil", 3), ("crew", 2), ("ink", 1))), ((1,), (("crew", 2), ("oil", 3))),
    ((1,), (("ink", 9), ("crew", 1), ("oil", 2))),
    ((2, 0, 1), 5), ((2, 1, 1), 1000), ((2, 0, 3), (("oil", 3),)), ((2, 0, 3), (("crew", 1), ("oil", 2))),
    ((2, 1, 3), (("oil", 2), ("crew", 2))), ((2, 2, 3), (("oil", 1),)), ((2, 1, 3), (("oil", 1), ("crew", 1))),
    ((2, 0, 4), 2), ((2, 2, 4), 30), ((2, 0, 5), 8), ((2, 0, 5), 0), ((2, 1, 5), 1000000), ((2, 1, 5), 0),
    ((2, 0, 6), 1), ((2, 0, 6), 1000), ((2, 1, 6), 1), ((2, 0, 0), "other"), ((2,), hard_book()[2] + (TASK,)),
    ((3, 0, 2), 4), ((3, 2, 2), 3), ((3, 2, 2), 9), ((3,), ((0, 2, 3), (1, 2, 1))), ((3,), ((1, 2, 5), (0, 2, 3), (0, 1, 0))),
    ((3,), ((0, 2, 0), (1, 2, 1), (0, 2, 3))), ((4,), ((2, 30), (1, 6))), ((4,), ((1, 6), (2, 30), (0, 1))),
]

EASIER = [
    ((0,), ("saw",)), ((0,), ("press", "saw")), ((0,), ("saw", "press", "lathe")), ((0,), ()), ((0,), ("saw", "lathe")),
    ((1, 0, 1), 4), ((1, 1, 1), 3), ((1,), (("oil", 3),)), ((1,), (("oil", 3), ("ink", 2))), ((1,), ()),
    ((2, 0, 1), 3), ((2, 1, 1), 1), ((2, 0, 2), "press"), ((2, 0, 2), ""), ((2, 2, 2), "saw"), ((2, 0, 3), (("oil", 1),)),
    ((2, 0, 3), ()), ((2, 0, 3), (("crew", 2),)), ((2, 1, 3), (("crew", 1),)), ((2, 1, 3), (("oil", 1),)),
    ((2, 0, 4), 0), ((2, 2, 4), 1), ((2, 0, 5), 10), ((2, 0, 5), None), ((2, 2, 5), 21), ((2, 0, 6), 0), ((2, 2, 6), 0),
    ((2,), hard_book()[2][:2]), ((2,), hard_book()[2][:1]), ((2,), (TASK,) + hard_book()[2]),
    ((3, 1, 2), 0), ((3, 0, 2), 2), ((3,), ((0, 2, 3),)), ((3,), ((1, 2, 1),)), ((3,), ((2, 0, 3), (1, 2, 1))), ((3,), ()),
    ((3,), ((0, 2, 2), (1, 2, 1), (0, 2, 1))),
    ((4, 0, 1), 7), ((4, 0, 1), 5), ((4,), ((1, 6),)), ((4,), ((2, 30),)), ((4,), ()), ((4,), ((1, 6), (0, 30))),
]


class Harder(unittest.TestCase):
    def test_a_book_and_itself(self):
        for book in [shop_book(), hard_book(), plain_book(30)] + some_books(100, 1):
            self.assertIs(is_harder(book, book), True)
            self.assertIs(is_harder(book, copy.deepcopy(book)), True)

    def test_each_thing_made_harder_by_itself(self):
        for path, thing in HARDER:
            self.assertIs(is_harder(hard_book(), put(hard_book(), path, thing)), True, (path, thing))

    def test_each_thing_made_easier_by_itself(self):
        for path, thing in EASIER:
            self.assertIs(is_harder(hard_book(), put(hard_book(), path, thing)), False, (path, thing))

    def test_the_other_way_about(self):
        for path, thing in (((1, 0, 1), 2), ((2, 0, 1), 5), ((2, 0, 4), 2), ((2, 0, 5), 8), ((3, 0, 2), 4), ((2, 1, 6), 1)):
            self.assertIs(is_harder(put(hard_book(), path, thing), hard_book()), False)

    def test_papers_show_for_a_harder_book(self):
        rng = random.Random(2)
        seen = 0
        for book in tight_books(250, 3) + [gaps_book(3), gaps_book(4)]:
            harder = some_harder(rng, book)
            self.assertIs(is_harder(book, harder), True)
            for worth in ("span", "late"):
                if counts(book, worth):
                    try:
                        best = best_plan(book, worth, 2000)
                        bound, paper = best.bound, best.paper
                    except NoPlan as never:
                        bound, paper = None, never.paper
                    self.assertIsNone(fault_in(harder, worth, bound, paper), (book, harder))
                    seen += 1
        self.assertGreater(seen, 200)


def some_harder(rng, book):
    """A book as hard as another one, by chance."""
    machines, goods, tasks, waits, fixed = book
    most = {good: max([1] + [dict(row[3]).get(good, 0) for row in tasks]) for good, _ in goods}
    goods = tuple((good, rng.randint(most[good], many)) for good, many in goods)
    there = dict(goods)
    pinned = dict(fixed)
    rows = []
    for k, (name, length, machine, needs, start, due, weight) in enumerate(tasks):
        needs = tuple((good, rng.randint(many, there[good])) for good, many in needs)
        start = min(start + rng.randint(0, 3), pinned.get(k, 10 ** 6))
        due = rng.choice([None, 9]) if due is None else rng.randint(0, due)
        weight = rng.choice([weight, weight + 1]) if weight else rng.choice([0, 5])
        rows.append((name, min(length + rng.randint(0, 2), 1000), machine, needs, start, due, weight))
    waits = tuple((a, b, gap + rng.randint(0, 2)) for a, b, gap in waits)
    return machines, goods, tuple(rows), waits, fixed


class Case(unittest.TestCase):
    def nothing(self, papers, *numbers):
        for number in list(numbers) + BAD_NUMBERS:
            self.assertEqual(name_of_error(papers.drop, number), "NoDeed", str(number)[:50])
            self.assertEqual(name_of_error(papers.told_paper, number), "NoDeed", str(number)[:50])


class Put(Case):
    def test_the_worth_first(self):
        papers = Papers()
        for worth in things() + ["sum", "count", "late"]:
            for bound, paper in ((8, CROWD), (None, CROWD), ("8", None), (8, []), (True, CROWD)):
                self.assertEqual(name_of_error(papers.put, saw_book(), worth, bound, paper), "BadWorth")
        self.assertEqual(name_of_error(papers.put, saw_book(weight=0), "span", 8, None), "BadWorth")
        self.assertEqual((papers.put(saw_book(), "span", 8, CROWD)), 1)

    def test_what_does_not_show_it(self):
        papers = Papers()
        for paper in things() + [("way", (0, 1)), ("crowd", [0, 1]), ["crowd", (0, 1)], ("crowd", (0, 9)), ("cases", (0, 1), ())]:
            self.assertEqual(name_of_error(papers.put, saw_book(), "span", 8, paper), "BadPaper")
        for bound in things() + [9, "8", True, [8], (8,), {8: 8}]:
            if not (type(bound) is int and bound <= 8):
                self.assertEqual(name_of_error(papers.put, saw_book(), "span", bound, CROWD), "BadPaper", str(bound)[:50])
                self.assertEqual(name_of_error(papers.put, saw_book(), "span", bound, None), "BadPaper", str(bound)[:50])
        self.assertEqual(papers.still(saw_book()), [])
        self.assertEqual(papers.put(saw_book(), "span", 8, CROWD), 1)

    def test_just_so_and_one_more(self):
        papers = Papers()
        for bound in (8, 7, 0, -3, -(10 ** 999)):
            papers.put(saw_book(), "span", bound, CROWD)
        self.assertEqual(papers.still(saw_book()), [1, 2, 3, 4, 5])
        self.assertEqual(name_of_error(papers.put, saw_book(), "span", 9, CROWD), "BadPaper")
        self.assertEqual(papers.told_paper(1), ("span", 8, CROWD))
        self.assertEqual(papers.told_paper(5), ("span", -(10 ** 999), CROWD))

    def test_sixty_and_more(self):
        papers = Papers()
        for number in range(1, 61):
            self.assertEqual(papers.put(saw_book(), "span", 8 - number, CROWD), number)
        self.assertEqual(papers.still(saw_book()), list(range(1, 61)))
        self.assertEqual(papers.put(saw_book(), "span", 8, CROWD), 61)
        self.assertEqual(papers.still(saw_book()), list(range(2, 62)))
        self.nothing(papers, 1, 62)
        self.assertEqual(papers.put(saw_book(), "span", 8, CROWD), 62)
        self.assertEqual(papers.still(saw_book()), list(range(3, 63)))
        papers.drop(30)
        self.assertEqual(papers.put(saw_book(), "span", 8, CROWD), 63)
        self.assertEqual(papers.still(saw_book()), [n for n in range(3, 64) if n != 30])
        self.assertEqual(papers.put(saw_book(), "span", 8, CROWD), 64)
        self.assertEqual(papers.still(saw_book()), [n for n in range(4, 65) if n != 30])

    def test_a_refused_one_changes_nothing(self):
        papers = Papers()
        for number in range(1, 61):
            papers.put(saw_book(), "span", 8, CROWD)
            self.assertEqual(name_of_error(papers.put, saw_book(), "span", 9, CROWD), "BadPaper")
            self.assertEqual(name_of_error(papers.put, saw_book(), "late", 8, CROWD), "BadWorth")
        self.assertEqual(papers.still(saw_book()), list(range(1, 61)))
        self.assertEqual(papers.put(saw_book(), "span", 8, CROWD), 61)


class Dropped(Case):
    def test_dropped(self):
        papers = Papers()
        self.nothing(papers, 1)
        for _ in range(3):
            papers.put(saw_book(), "span", 8, CROWD)
        self.assertIsNone(papers.drop(2))
        self.nothing(papers, 2, 4)
        self.assertEqual(papers.still(saw_book()), [1, 3])
        self.assertEqual(papers.put(saw_book(), "span", 8, CROWD), 4)
        papers.drop(4)
        self.assertEqual(papers.put(saw_book(), "span", 8, CROWD), 5)
        self.assertEqual(papers.still(saw_book()), [1, 3, 5])
        for number in (1, 3, 5):
            papers.drop(number)
        self.nothing(papers, 1, 2, 3, 4, 5, 6)
        self.assertEqual(papers.put(saw_book(), "span", 8, CROWD), 6)

    def test_two_of_them(self):
        one, other = Papers(), Papers()
        self.assertEqual(one.put(saw_book(), "span", 8, CROWD), 1)
        self.nothing(other, 1)
        self.assertEqual(other.put(saw_book(), "span", 7, CROWD), 1)
        one.drop(1)
        self.assertEqual(other.told_paper(1), ("span", 7, CROWD))


class Still(Case):
    def test_another_book(self):
        papers = Papers()
        book = saw_book(due=9)
        papers.put(book, "span", 12, ("crowd", (0, 1, 2)))
        papers.put(book, "span", 8, CROWD)
        papers.put(book, "late", 3, ("crowd", (0, 1, 2)))
        papers.put(book, "late", -5, ("way", (2,)))
        self.assertEqual(papers.still(book), [1, 2, 3, 4])
        self.assertEqual(papers.still(saw_book()), [1, 2])
        self.assertEqual(papers.still(saw_book(length=3, due=9)), [])
        self.assertEqual(papers.still(saw_book(length=3, due=8)), [4])
        self.assertEqual(papers.still(saw_book(length=5, weight=0, due=9)), [3, 4])
        self.assertEqual(papers.still(saw_book(2, due=9)), [2])
        self.assertEqual(papers.still(plain_book(3, length=9)), [])
        self.assertEqual(papers.still(saw_book(length=5, weight=0)), [])
        self.assertEqual(papers.still(book), [1, 2, 3, 4])

    def test_a_worth_that_counts_nothing(self):
        book = plain_book(2, [(0, 1, 0)], [(1, 1)], length=4)
        papers = Papers()
        papers.put(book, "span", None, ("fixed", (0, 1)))
        light = plain_book(2, [(0, 1, 0)], [(1, 1)], length=4, weight=0)
        self.assertEqual((papers.still(book), papers.still(light)), ([1], []))
        self.assertIsNone(papers.best_bound(light, "span"))

    def test_the_greatest_bound(self):
        papers = Papers()
        book = saw_book(due=9)
        self.assertIsNone(papers.best_bound(book, "span"))
        for bound, paper in ((4, CROWD), (8, CROWD), (8, ("crowd", (0, 2))), (7, CROWD), (12, ("crowd", (0, 1, 2)))):
            papers.put(book, "span", bound, paper)
        papers.put(book, "late", -1, CROWD)
        papers.put(book, "late", -5, CROWD)
        self.assertEqual((papers.best_bound(book, "span"), papers.best_bound(book, "late")), (5, 6))
        papers.drop(5)
        self.assertEqual(papers.best_bound(book, "span"), 2)
        papers.drop(2)
        self.assertEqual(papers.best_bound(book, "span"), 3)
        self.assertEqual(papers.best_bound(saw_book(2, due=9), "span"), 4)
        self.assertEqual(papers.best_bound(saw_book(2), "late"), None)
        self.assertEqual(papers.best_bound(saw_book(length=1), "span"), None)

    def test_none_is_the_greatest_bound(self):
        book = plain_book(2, [(0, 1, 0)], [(1, 1)], length=4)
        papers = Papers()
        papers.put(book, "span", 10 ** 999, ("fixed", (0, 1)))
        self.assertEqual(papers.best_bound(book, "span"), 1)
        papers.put(book, "span", None, ("fixed", (0, 1)))
        papers.put(book, "span", 10 ** 999, ("fixed", (0, 1)))
        papers.put(book, "span", None, ("fixed", (0, 1)))
        self.assertEqual(papers.best_bound(book, "span"), 2)
        papers.drop(2)
        self.assertEqual(papers.best_bound(book, "span"), 4)
        self.assertEqual(papers.best_bound(plain_book(2, [(0, 1, 0)], [(1, 4)], length=4), "span"), None)

    def test_as_they_show_there(self):
        rng = random.Random(4)
        books = [book for book in tight_books(40, 5) if counts(book, "span")]
        papers, kept = Papers(), []
        for book in books:
            try:
                best = best_plan(book, "span", 5)
                kept.append(("span", best.bound - rng.randint(0, 2), best.paper))
            except NoPlan as never:
                kept.append(("span", None, never.paper))
            self.assertEqual(papers.put(book, *kept[-1]), len(kept))
        for book in books:
            told = [k + 1 for k, (worth, bound, paper) in enumerate(kept) if shows(book, worth, bound, paper)]
            self.assertEqual(papers.still(book), told)
            best = papers.best_bound(book, "span")
            greatest = max(10 ** 9 if kept[k - 1][1] is None else kept[k - 1][1] for k in told)
            self.assertEqual(best, [k for k in told if kept[k - 1][1] in ([None] if greatest == 10 ** 9 else [greatest])][0])


class Own(Case):
    def test_what_is_told_may_be_changed(self):
        papers = Papers()
        papers.put(saw_book(), "span", 8, CROWD)
        told = papers.still(saw_book())
        told.append(9)
        self.assertEqual(papers.still(saw_book()), [1])
        self.assertEqual(papers.told_paper(1), ("span", 8, CROWD))

    def test_papers_of_a_part_that_goes_round(self):
        inner = [1, {2: [3]}]
        tasks = [task("a", 4, "saw"), task("b", 4, "saw")]
        book = book_of_tasks(tasks, ("saw",), waits=[(0, 1, 0)])
        paper = cases((0, 1), ("way", (0, 1)), ("cases", (0, 1), (inner, "x")))
        papers = Papers()
        papers.put(book, "span", 8, paper)
        before = copy.deepcopy(paper)
        inner.append(5)
        inner[1][2].append(5)
        told = papers.told_paper(1)
        self.assertEqual(told, ("span", 8, before))
        told[2][2][1][2][0].append(7)
        self.assertEqual(papers.told_paper(1), ("span", 8, before))

    def test_what_is_handed_in_stays(self):
        book, papers = saw_book(), Papers()
        before = copy.deepcopy(book)
        papers.put(book, "span", 8, CROWD)
        papers.still(book)
        papers.best_bound(book, "span")
        is_harder(book, book)
        self.assertEqual(book, before)


if __name__ == "__main__":
    unittest.main()
