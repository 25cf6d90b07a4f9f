"""Papers made smaller (point 85; the interface's smaller.py)."""

import copy
import random
import unittest

from boundsmith.crowdings import can_all
from boundsmith.errors import NoPlan
from boundsmith.nets import is_ring
from boundsmith.papers import fault_in, shows
from boundsmith.search import best_plan
from boundsmith.smaller import smaller
from boundsmith.stretches import stretch_for
from tests.samples import (
    book_of_tasks, cases_in, counts, deep, name_of_error, parts_of, plain_book, some_books, task, things, tight_books,
    within)
from tests.test_papers import cases, chain, pairs_by_hand, saw_book
from tests.test_search import gaps_book, oil_book

WAY, CROWD = ("way", (0,)), ("crowd", (0, 1))


def nets_of(book, paper, arcs=()):
    """All parts of a paper that are gone into, each with the arcs of the cases around it."""
    told = [(paper, list(arcs))]
    if paper[0] == "cases" and not is_ring(book, list(arcs)):
        for arc, part in zip(pairs_by_hand(paper[1]), paper[2]):
            told.extend(nets_of(book, part, arcs + (arc,)))
    return told


def tasks_in(book, paper):
    """How many TASKS all parts of a paper that are gone into have together."""
    return sum(len(part[1]) for part, _ in nets_of(book, paper) if part[0] != "stretch")


def less_by_hand(paper):
    """All that is left where something is left out of a paper's outermost part."""
    kind = paper[0]
    if kind == "stretch":
        return []
    if kind != "cases":
        return [(kind, paper[1][:at] + paper[1][at + 1:]) for at in range(len(paper[1]))]
    told = list(paper[2]) + ([(kind, paper[1], ())] if paper[2] else [])
    for at, gone in enumerate(paper[1]):
        kept = tuple(part for arc, part in zip(pairs_by_hand(paper[1]), paper[2]) if gone not in arc)
        told.append((kind, paper[1][:at] + paper[1][at + 1:], kept))
    return told


def some_shown(rng, book, worth, bound, more, arcs=()):
    """A paper that shows the bound by arcs, with many things that are not wanted; None where none is found."""
    arcs, many = list(arcs), len(book[2])
    if is_ring(book, arcs):
        kind = rng.choice(["way", "crowd", "ring", "fixed", "stretch", "cases", "cases"])
        tasks = tuple(rng.sample(range(many), rng.randint(2, min(many, 4))))
        if kind == "stretch":
            return (kind, "none", 0, 1)
        return (kind, tasks) if kind != "cases" else (kind, tasks, rng.choice([(), (WAY,), (WAY, CROWD), ((), (1,))]))
    for _ in range(6 * (more > 0 and many > 1)):
        tasks = tuple(rng.sample(range(many), rng.randint(2, min(many, 3))))
        if not can_all(book, list(tasks)):
            parts = [some_shown(rng, book, worth, bound, more - 1, arcs + [arc]) for arc in pairs_by_hand(tasks)]
            return None if None in parts else ("cases", tasks, tuple(parts))
    for _ in range(40):
        paper = (rng.choice(["way", "crowd", "fixed"]), tuple(rng.sample(range(many), rng.randint(1, min(many, 4)))))
        if shows(book, worth, bound, paper, arcs):
            return paper
    found = stretch_for(book, arcs, worth, bound)
    return None if found is None else ("stretch",) + found


class Case(unittest.TestCase):
    def held(self, book, worth, bound, paper):
        """What is told, held against all that is promised of it."""
        before = copy.deepcopy(paper)
        told = smaller(book, worth, bound, paper)
        self.assertEqual(paper, before)
        self.assertIsNone(fault_in(book, worth, bound, told))
        self.assertLessEqual(len(nets_of(book, told)), len(nets_of(book, paper)))
        self.assertLessEqual(tasks_in(book, told), tasks_in(book, paper))
        for part, arcs in nets_of(book, told):
            for less in less_by_hand(part):
                self.assertFalse(shows(book, worth, bound, less, arcs), (told, part, less))
            if part[0] == "cases" and is_ring(book, arcs):
                self.assertEqual(part[2], ())
        self.assertEqual(smaller(book, worth, bound, told), told)
        self.assertEqual(smaller(book, worth, bound, paper), told)
        return told

    def to(self, expected, book, bound, paper, worth="span"):
        self.assertEqual(self.held(book, worth, bound, paper), expected)


class Refused(Case):
    def test_the_worth_first(self):
        for worth in things() + ["sum", "count", "late"]:
            for paper in (("crowd", (0, 1)), None, ("way", (9,)), []):
                error = name_of_error(smaller, saw_book(), worth, 8, paper)
                self.assertEqual(error, "BadWorth")
        self.assertEqual(name_of_error(smaller, saw_book(weight=0), "span", 0, None), "BadWorth")

    def test_what_does_not_show_it(self):
        bad = things() + [
            ("way", (0, 1)), ("crowd", (0, 9)), ("crowd", [0, 1]), ["crowd", (0, 1)], ("crowd", (0, 0)), ("crowd", ()),
            ("crowd", (0,)), ("ring", (0, 1)), ("fixed", (0, 1)), ("stretch", "saw", 0, 12), ("stretch", "saw", 8, 0),
            ("stretch", 5, 0, 7), ("cases", (0, 1), ()), cases((0, 1), CROWD), cases((0, 1), CROWD, WAY),
            cases((0, 1), CROWD, CROWD, CROWD), cases((0,)), ("CROWD", (0, 1)), chain(61), cases((0, 1), None, CROWD),
            ("cases", (0, 1), [CROWD, CROWD]), ("crowd", (True, False)), ("crowd", (0, 1), ()),
        ]
        for paper in bad:
            self.assertEqual(name_of_error(smaller, saw_book(), "span", 8, paper), "BadPaper", str(paper)[:80])

    def test_bounds(self):
        for bound in (9, 10 ** 999, None):
            self.assertEqual(name_of_error(smaller, saw_book(), "span", bound, CROWD), "BadPaper")
        for bound in (True, "8", [8], (8,), {}, deep("list", 150)):
            for paper in (CROWD, None):
                self.assertEqual(name_of_error(smaller, saw_book(), "span", bound, paper), "BadPaper")
        for bound in (8, 7, 0, -5, -(10 ** 999)):
            self.assertIsNone(name_of_error(smaller, saw_book(), "span", bound, CROWD))

    def test_bounds_and_worths_at_once(self):
        for bound in (True, "8", [8], {}):
            for worth in ("late", "sum", None):
                self.assertEqual(name_of_error(smaller, saw_book(), worth, bound, CROWD), "BadWorth")

    def test_everything_with_a_fault(self):
        rng = random.Random(1)
        seen = 0
        for book in some_books(120, 1, 4):
            if counts(book, "span"):
                paper = some_shown(rng, book, "span", 0, 2)
                for bound in (3, 6, 12, None):
                    fault = fault_in(book, "span", bound, paper)
                    error = name_of_error(smaller, book, "span", bound, paper)
                    self.assertEqual(error, None if fault is None else "BadPaper")
                    seen += fault is not None
        self.assertGreater(seen, 50)


class Alone(Case):
    def test_a_way(self):
        book = plain_book(4, [(0, 1, 2), (1, 2, 0), (2, 3, 0)], length=3)
        way = ("way", (0, 1, 2, 3))
        self.to(way, book, 14, way)
        self.to(way, book, 12, way)
        for bound, most in ((11, 3), (8, 3), (6, 2), (3, 1), (0, 1), (-9, 1)):
            self.assertLessEqual(len(self.held(book, "span", bound, way)[1]), most)

    def test_a_way_whose_bound_an_inner_task_only_lowers(self):
        book = book_of_tasks([task("a", 3), task("b", 2, start=9), task("c", 1, weight=0)], waits=[(0, 1, 0), (0, 2, 0)])
        self.to(("way", (1,)), book, 5, ("way", (0, 1)))

    def test_a_crowd(self):
        book = saw_book(4)
        self.to(("crowd", (0, 1, 2, 3)), book, 16, ("crowd", (0, 1, 2, 3)))
        self.to(("crowd", (3, 2, 1, 0)), book, 13, ("crowd", (3, 2, 1, 0)))
        for bound, many in ((12, 3), (9, 3), (8, 2), (5, 2), (4, 1), (-5, 1)):
            self.assertEqual(len(self.held(book, "span", bound, ("crowd", (0, 1, 2, 3)))[1]), many)

    def test_a_crowd_with_one_that_only_lowers_it(self):
        book = book_of_tasks([task("a", 4, "saw", start=9), task("b", 1, "saw")], ("saw",))
        self.to(("crowd", (0,)), book, 13, ("crowd", (0,)))
        self.to(("crowd", (0,)), book, 5, ("crowd", (1, 0)))

    def test_a_fixed_one(self):
        book = plain_book(3, [(0, 1, 0), (1, 2, 5)], [(2, 8)], length=4)
        self.to(("fixed", (1, 2)), book, None, ("fixed", (0, 1, 2)))
        book = plain_book(3, [(0, 1, 0), (1, 2, 5)], [(2, 12)], length=4)
        self.to(("fixed", (0, 1, 2)), book, None, ("fixed", (0, 1, 2)))

    def test_a_stretch_stays(self):
        for stretch in (("stretch", "saw", 0, 11), ("stretch", "saw", -1, 10), ("stretch", "saw", 1, 11)):
            if shows(saw_book(), "span", 8, stretch):
                self.to(stretch, saw_book(), 8, stretch)
        self.to(("stretch", "saw", 0, 7), saw_book(), 8, ("stretch", "saw", 0, 7))


class Within(Case):
    def test_cases_around_that_are_not_wanted(self):
        self.to(CROWD, saw_book(), 8, cases((0, 1), CROWD, CROWD))
        self.to(CROWD, saw_book(), 8, chain(50))
        self.to(CROWD, saw_book(), 8, cases((1, 2), cases((0, 2), CROWD, CROWD), CROWD))

    def test_cases_within_that_are_not_wanted(self):
        book = oil_book([5, 4, 3], [2, 2, 2], 2)
        ways = [("way", arc) for arc in pairs_by_hand((0, 1))]
        self.to(cases((0, 1), *ways), book, 9, cases((0, 1), cases((0, 2), ways[0], ways[0]), ways[1]))
        self.to(cases((0, 1), *ways), book, 9, cases((0, 1), ways[0], cases((2, 0), ways[1], cases((1, 2), ways[1], ways[1]))))

    def test_papers_in_place_of_their_cases(self):
        book = oil_book([5, 4, 3], [2, 2, 2], 2)
        self.to(("way", (0,)), book, 5, cases((0, 1), ("way", (0, 1)), ("way", (1, 0))))
        self.to(("stretch", "oil", 0, 8), book, 9, cases((0, 1), ("way", (0, 1)), ("stretch", "oil", 0, 8)))

    def test_the_same_paper_in_two_places(self):
        book = oil_book([5, 4, 3], [2, 2, 2], 2)
        inner = cases((1, 2), ("way", (1, 2)), ("way", (2, 1)))
        self.to(inner, book, 7, cases((0, 1), inner, inner))
        self.to(inner, book, 7, cases((0, 2), inner, cases((0, 1), inner, inner)))

    def test_cases_with_a_task_too_many(self):
        book = oil_book([5, 4, 3], [2, 2, 1], 3)
        parts = [("way", (0, 1)), ("stretch", "oil", 0, 8), ("way", (1, 0)), ("stretch", "oil", 0, 8)]
        self.assertFalse(can_all(book, [0, 1, 2]))
        ways = {arc: ("way", arc) for arc in pairs_by_hand((0, 1))}
        inner = cases((0, 1), ways[(0, 1)], ways[(1, 0)])
        paper = cases((0, 1, 2), *[ways.get(arc, inner) for arc in pairs_by_hand((0, 1, 2))])
        self.assertEqual(len(parts), 4)
        self.to(inner, book, 9, paper)

    def test_cases_of_three_that_are_all_wanted(self):
        book = oil_book([2, 2, 2], [1, 1, 1], 2)
        paper = cases((2, 0, 1), *[("way", arc) for arc in pairs_by_hand((2, 0, 1))])
        self.to(paper, book, 4, paper)
        self.to(paper, book, 3, paper)
        self.assertEqual(len(parts_of(self.held(book, "span", 2, paper))), 1)

    def test_a_task_left_out_with_the_papers_of_its_pairs(self):
        # Three tasks of which each two can't run at once: any one of them can be left out, its pairs' papers with it.
        book = oil_book([2, 2, 2], [2, 2, 2], 2, waits=[])
        paper = cases((0, 1, 2), *[("way", arc) for arc in pairs_by_hand((0, 1, 2))])
        told = self.held(book, "span", 4, paper)
        self.assertEqual((len(told[1]), len(told[2])), (2, 2))
        self.assertEqual(told[2], tuple(("way", arc) for arc in pairs_by_hand(told[1])))

    def test_the_two_tasks_that_are_wanted_anywhere(self):
        for many in (3, 4, 5):
            for pair in pairs_by_hand(range(many)):
                book = book_of_tasks([task("abcde"[k], 4, "saw" if k in pair else "") for k in range(many)], ("saw",))
                for tasks in (tuple(range(many)), tuple(reversed(range(many)))):
                    told = self.held(book, "span", 8, cases(tasks, *[("way", arc) for arc in pairs_by_hand(tasks)]))
                    kept = tuple(k for k in tasks if k in pair)
                    self.assertEqual(told, cases(kept, *[("way", arc) for arc in pairs_by_hand(kept)]))

    def test_a_paper_for_none(self):
        book = gaps_book(3)
        with self.assertRaises(NoPlan) as caught:
            best_plan(book, "span", 2000)
        paper = caught.exception.paper
        told = self.held(book, "span", None, paper)
        self.assertLessEqual(len(parts_of(told)), len(parts_of(paper)))
        around = cases((0, 1), paper, paper)
        self.assertEqual(self.held(book, "span", None, around), told)


class Round(Case):
    def part(self, part):
        """What a part becomes that stands, within cases that are wanted, where waits and arcs go round."""
        tasks = [task("a", 4, "", (("oil", 1),)), task("b", 4), task("c", 4, "", (("oil", 1),))]
        book = book_of_tasks(tasks, (), (("oil", 1),), [(0, 1, 0), (1, 2, 0)])
        told = self.held(book, "span", 8, cases((0, 2), ("way", (0, 2)), part))
        self.assertEqual(told[:2] + told[2][:1], ("cases", (0, 2), ("way", (0, 2))))
        return told[2][1]

    def test_it_stays_without_any_papers(self):
        for papers in ((), (WAY,), (WAY, WAY), (1, "x", None), ((), (), ()), ([WAY], {}), (deep("tuple", 100),)):
            self.assertEqual(self.part(("cases", (2, 1), papers)), ("cases", (2, 1), ()))
            told = self.part(("cases", (2, 0, 1), papers))
            self.assertEqual((told[0], len(told[1]), told[2]), ("cases", 2, ()))

    def test_tasks_too_many(self):
        for kind, many in (("way", 1), ("crowd", 1), ("fixed", 1), ("ring", 2)):
            for tasks in ((1, 0), (2, 1, 0), (2, 0)):
                told = self.part((kind, tasks))
                self.assertEqual((told[0], len(told[1])), (kind, many))
                self.assertTrue(set(told[1]) <= set(tasks))

    def test_what_is_as_small_as_can_be(self):
        for part in (("ring", (0, 1)), ("ring", (2, 0)), ("stretch", "zz", 3, 4), ("way", (1,)), ("fixed", (1,))):
            self.assertEqual(self.part(part), part)


class Some(Case):
    def test_some_papers(self):
        rng = random.Random(2)
        seen = 0
        for book in some_books(80, 2, 4) + tight_books(50, 3):
            for worth in ("span", "late"):
                if counts(book, worth):
                    for bound in (rng.randint(-20, 10), rng.randint(0, 30), None):
                        paper = some_shown(rng, book, worth, bound, 3)
                        if paper is not None and shows(book, worth, bound, paper):
                            told = self.held(book, worth, bound, paper)
                            seen += 1
        self.assertGreater(seen, 100)

    def test_papers_of_searches(self):
        rng = random.Random(3)
        left = 0
        for book in tight_books(300, 4) + tight_books(60, 5, 5):
            if not counts(book, "span"):
                continue
            try:
                best = best_plan(book, "span", 2000)
                bound, paper = best.bound, best.paper
            except NoPlan as never:
                bound, paper = None, never.paper
            for less in (0, 1, rng.randint(2, 9)):
                if bound is not None or less == 0:
                    lower = None if bound is None else bound - less
                    told = self.held(book, "span", lower, paper)
                    left += cases_in(told)
        self.assertGreater(left, 20)

    def test_great_papers(self):
        with within(60):
            best = best_plan(oil_book([5] * 9, [1] * 9, 2), "span", 2000)
            for bound in (best.bound, best.bound - 1):
                told = smaller(oil_book([5] * 9, [1] * 9, 2), "span", bound, best.paper)
                self.assertIsNone(fault_in(oil_book([5] * 9, [1] * 9, 2), "span", bound, told))
                self.assertLessEqual(len(parts_of(told)), len(parts_of(best.paper)))
            best = best_plan(gaps_book(4), "span", 40)
            self.held(gaps_book(4), "span", best.bound, best.paper)
            with self.assertRaises(NoPlan) as caught:
                best_plan(gaps_book(5), "span", 2000)
            told = smaller(gaps_book(5), "span", None, caught.exception.paper)
            self.assertIsNone(fault_in(gaps_book(5), "span", None, told))

    def test_asked_again_and_what_is_handed_in(self):
        book = gaps_book(3)
        before = copy.deepcopy(book)
        papers = [smaller(book, "span", 8, cases((0, 1), WAY_8, WAY_8)) for _ in range(2)]
        self.assertEqual(papers[0], papers[1])
        self.assertEqual(book, before)


WAY_8 = ("way", (5,))


if __name__ == "__main__":
    unittest.main()
