"""Papers (points 60 and 61; the interface's papers.py)."""

import copy
import itertools
import random
import unittest

from boundsmith.bounds import crowd_bound, way_bound
from boundsmith.crowdings import can_all
from boundsmith.nets import is_ring, longest, steps
from boundsmith.papers import fault_in, shows
from boundsmith.plans import fault_of, worth_of
from boundsmith.stretches import is_stretch, stretch_for
from boundsmith.worths import need_counted
from tests.samples import (
    NAMES, begin_by_hand, book_of_tasks, deep, length_by_hand, name_of_error, plain_book, put, some_arcs, some_books,
    task, things, within)

WORTHS = ("span", "late")
RING = [(0, 1), (1, 0)]
FORM, TASKS = ((), "form"), ((), "tasks")


def saw_book(many=3, length=4, weight=1, due=None):
    return book_of_tasks([task(NAMES[k], length, "saw", (), 0, due, weight) for k in range(many)], ("saw", "press"))


def cases(tasks, *papers):
    return ("cases", tasks, papers)


def chain(many, end=("crowd", (0, 1))):
    """So many papers within each other; shows 8 by two tasks of a saw of length 4."""
    paper = end
    for _ in range(many - 1):
        paper = cases((0, 1), paper, ("crowd", (0, 1)))
    return paper


def pairs_by_hand(tasks):
    return [(a, b) for a in tasks for b in tasks if a != b]


def form_by_hand(paper):
    """Whether it has the form of a paper, by the words of the document."""
    def whole(thing):
        return type(thing) is int

    if type(paper) is not tuple or not paper or type(paper[0]) is not str:
        return False
    kind, parts = paper[0], paper[1:]
    if kind == "stretch":
        return (len(parts) == 3 and type(parts[0]) is str and whole(parts[1]) and whole(parts[2])
                and -9999999 <= parts[1] < parts[2] <= 9999999)
    if kind not in ("way", "crowd", "ring", "fixed", "cases") or len(parts) != 1 + (kind == "cases"):
        return False
    return type(parts[0]) is tuple and all(whole(k) for k in parts[0]) and (len(parts) == 1 or type(parts[1]) is tuple)


def holds_by_hand(book, worth, bound, paper, arcs):
    """Whether a paper shows it by itself, without a ring and by its form."""
    kind, tasks = paper[0], paper[1]
    if kind == "stretch":
        return is_stretch(book, arcs, worth, bound, *paper[1:])
    if kind == "cases":
        return len(paper[2]) == len(tasks) * (len(tasks) - 1) and not can_all(book, list(tasks))
    if kind == "ring":
        return False
    if kind == "fixed":
        begin = dict(book[4]).get(tasks[-1])
        if begin is None or any(pair not in steps(book, arcs) for pair in zip(tasks, tasks[1:])):
            return False
        return begin_by_hand(book, tasks[0]) + length_by_hand(book, arcs, tasks) - book[2][tasks[-1]][1] > begin
    told = (way_bound if kind == "way" else crowd_bound)(book, arcs, worth, list(tasks))
    return None not in (told, bound) and told >= bound


def fault_by_hand(book, worth, bound, paper, arcs, path=(), gone=None):
    """The first fault, by the words of the document."""
    gone = [] if gone is None else gone
    gone.append(path)
    if len(path) >= 60 or len(gone) > 2000 or not form_by_hand(paper):
        return path, "form"
    if paper[0] != "stretch":
        tasks, least = paper[1], 2 if paper[0] in ("ring", "cases") else 1
        if len(tasks) < least or len(set(tasks)) < len(tasks) or any(not 0 <= k < len(book[2]) for k in tasks):
            return path, "tasks"
    if is_ring(book, arcs):
        return None
    if not holds_by_hand(book, worth, bound, paper, arcs):
        return path, paper[0]
    if paper[0] == "cases":
        for place, (arc, part) in enumerate(zip(pairs_by_hand(paper[1]), paper[2])):
            fault = fault_by_hand(book, worth, bound, part, list(set(arcs + [arc])), path + (place,), gone)
            if fault is not None:
                return fault
    return None


class Case(unittest.TestCase):
    def fault(self, expected, book, worth, bound, paper, arcs=None):
        self.assertEqual(fault_in(book, worth, bound, paper, arcs), expected, str(paper)[:80])
        self.assertIs(shows(book, worth, bound, paper, arcs), expected is None)

    def just(self, book, worth, bound, paper, arcs=None):
        """The paper shows the bound, and no greater one."""
        self.fault(None, book, worth, bound, paper, arcs)
        for less in (1, 2, 100):
            self.fault(None, book, worth, bound - less, paper, arcs)
        for more in (bound + 1, bound + 2, 10 ** 900, None):
            self.fault(((), paper[0]), book, worth, more, paper, arcs)


class Refused(Case):
    def test_arcs_first(self):
        bad = [thing for thing in things() if thing is not None and thing != []]
        bad += [[(0, 0)], [(0, 3)], [(0, -1)], [(True, 0)], [[0, 1]], [(0, 1, 2)], [(0, 1)] * 901, ((0, 1),), False, 0]
        for arcs in bad:
            for worth in ("span", "late", "sum", None, []):
                for paper in (("way", (0,)), None, chain(61)):
                    for call in (fault_in, shows):
                        self.assertEqual(name_of_error(call, saw_book(), worth, 4, paper, arcs), "BadArcs")

    def test_then_the_worth(self):
        for arcs in (None, [], [(0, 1)], RING):
            for worth in things() + ["late", "sum", "count", "Span", ["span"], ("span",)]:
                for paper in (("way", (0,)), None):
                    for call in (fault_in, shows):
                        self.assertEqual(name_of_error(call, saw_book(), worth, 4, paper, arcs), "BadWorth")

    def test_where_no_task_counts(self):
        for arcs in ([], RING):
            for call in (fault_in, shows):
                self.assertEqual(name_of_error(call, saw_book(weight=0), "span", 4, ("way", (0,)), arcs), "BadWorth")
                self.assertEqual(name_of_error(call, saw_book(weight=0, due=1), "span", 4, 0, arcs), "BadWorth")
                self.assertIsNone(name_of_error(call, saw_book(weight=0, due=1), "late", 4, ("way", (0,)), arcs))

    def test_900_arcs_and_901(self):
        for many, name in ((899, None), (900, None), (901, "BadArcs")):
            for call in (fault_in, shows):
                self.assertEqual(name_of_error(call, saw_book(), "span", 4, ("way", (0,)), [(0, 1)] * many), name)


class Own(Case):
    def test_what_is_handed_in_stays(self):
        book, arcs = saw_book(), [(0, 1), (1, 2)]
        papers = [chain(3), cases((0, 1, 2), [1], {}), cases((1, 0), [("way", (0,))]), [["way", [0]]], {0: [1]}]
        for paper in papers:
            before = copy.deepcopy((book, arcs, paper))
            for told in (arcs, None, RING + arcs):
                fault_in(book, "span", 8, paper, told)
                shows(book, "span", 8, paper, told)
            self.assertEqual((book, arcs, paper), before)

    def test_kinds(self):
        told = fault_in(saw_book(), "span", 9, chain(4))
        self.assertEqual(told, ((0, 0, 0), "crowd"))
        self.assertEqual([type(part) for part in (told,) + told], [tuple, tuple, str])
        self.assertEqual([type(place) for place in told[0]], [int] * 3)

    def test_asked_again_the_same_is_told(self):
        rng = random.Random(1)
        for book in some_books(60, 1):
            paper, arcs = some_paper(rng, book, 3), some_arcs(rng, book, 1)
            if any(row[6] for row in book[2]):
                self.assertEqual(fault_in(book, "span", 5, paper, arcs), fault_in(book, "span", 5, paper, list(arcs)))

    def test_without_arcs(self):
        book = plain_book(3, length=3)
        for arcs in (None, []):
            self.fault(((), "way"), book, "span", 6, ("way", (0, 1)), arcs)
            self.fault(None, book, "span", 3, ("way", (0,)), arcs)
        self.assertIsNone(fault_in(book, "span", 3, ("way", (0,))))
        self.assertIs(shows(book, "span", 4, ("way", (0,))), False)
        self.fault(None, book, "span", 6, ("way", (0, 1)), [(0, 1)])


class Ways(Case):
    def test_just_so_and_one_more(self):
        book = book_of_tasks([task("a", 4, start=2), task("b", 3, due=5), task("c", 2, weight=0)], waits=[(0, 1, 1)])
        self.just(book, "span", 6, ("way", (0,)))
        self.just(book, "span", 10, ("way", (0, 1)))
        self.just(book, "late", 5, ("way", (0, 1)))
        self.just(book, "late", -2, ("way", (1,)))
        self.just(book, "span", 5, ("way", (2, 1)), [(2, 1)])

    def test_ways_that_are_none(self):
        book = book_of_tasks([task("a", 4), task("b", 3), task("c", 2, weight=0)], waits=[(0, 1, 1), (1, 2, 0)])
        for way in ((1, 0), (0, 2), (2, 1), (0, 1, 2), (2,)):
            for bound in (-100, 0, None):
                self.fault(((), "way"), book, "span", bound, ("way", way))
        self.fault(None, book, "span", 8, ("way", (0, 1)), [(0, 2)])


class Crowds(Case):
    def test_just_so_and_one_more(self):
        book = book_of_tasks([task("a", 4, "saw", start=2, due=9), task("b", 3, "saw", start=1, due=5), task("c", 2)],
                             ("saw",), waits=[(0, 2, 3)])
        self.just(book, "span", 8, ("crowd", (0, 1)))
        self.just(book, "span", 8, ("crowd", (1, 0)))
        self.just(book, "span", 11, ("crowd", (0,)))
        self.just(book, "late", -1, ("crowd", (1, 0)))
        self.just(book, "span", 10, ("crowd", (0, 1)), [(1, 2)])

    def test_crowds_that_are_none(self):
        tasks = [task("a", 4, "saw"), task("b", 4, "press"), task("c", 4), task("d", 4, "saw", weight=0)]
        book = book_of_tasks(tasks, ("saw", "press"))
        for crowd in ((0, 1), (2,), (0, 2), (0, 3), (3,)):
            for bound in (-100, 0, None):
                self.fault(((), "crowd"), book, "span", bound, ("crowd", crowd))
        self.just(book, "span", 4, ("crowd", (0,)))


class Fixed(Case):
    def test_just_in_time_and_too_late(self):
        for begin, late in ((6, True), (7, False), (8, False)):
            book = plain_book(3, [(0, 1, 3)], [(1, begin)], length=4)
            for bound in (-5, 0, 10 ** 900, None):
                self.fault(None if late else ((), "fixed"), book, "span", bound, ("fixed", (0, 1)))
        tasks = [task("a", 2, start=5), task("b", 3), task("c", 1)]
        for begin, late in ((10, True), (11, False)):
            book = book_of_tasks(tasks, waits=[(0, 1, 1)], fixed=[(2, begin)])
            self.fault(None if late else ((), "fixed"), book, "span", None, ("fixed", (0, 1, 2)), [(1, 2)])

    def test_the_first_one_fixed_too(self):
        for begin, late in ((13, True), (14, False)):
            book = plain_book(2, [(0, 1, 0)], [(1, begin), (0, 10)], length=4)
            self.fault(None if late else ((), "fixed"), book, "span", 3, ("fixed", (0, 1)))

    def test_a_fixed_one_in_the_midst_does_not_matter(self):
        book = plain_book(3, [(0, 1, 0), (1, 2, 0)], [(1, 10), (2, 12)], length=4)
        self.fault(((), "fixed"), book, "span", 3, ("fixed", (0, 1, 2)))
        self.fault(None, book, "span", 3, ("fixed", (1, 2)))
        self.fault(((), "fixed"), book, "span", 3, ("fixed", (0, 1)))

    def test_what_shows_nothing(self):
        book = plain_book(3, [(0, 1, 3), (1, 2, 0)], [(1, 0)], length=4)
        for way in ((1,), (0,), (0, 2), (1, 0), (1, 2), (0, 1, 2), (2, 1)):
            self.fault(((), "fixed"), book, "span", None, ("fixed", way))
        self.fault(None, book, "span", None, ("fixed", (0, 1)))


class Stretches(Case):
    def test_just_so_and_one_more(self):
        book = saw_book()
        self.just(book, "span", 12, ("stretch", "saw", 0, 11))
        oil = book_of_tasks([task(NAMES[k], 4, "", (("oil", 2),)) for k in range(3)], (), (("oil", 3),))
        self.fault(None, oil, "span", 8, ("stretch", "oil", 0, 7))
        self.fault(((), "stretch"), oil, "span", 9, ("stretch", "oil", 0, 8))

    def test_none_as_the_bound(self):
        tasks = [task("a", 4, "saw"), task("b", 3, "saw"), task("c", 2)]
        for begin, fault in ((6, None), (7, ((), "stretch"))):
            book = book_of_tasks(tasks, ("saw",), waits=[(0, 2, 0), (1, 2, 0)], fixed=[(2, begin)])
            self.fault(fault, book, "span", None, ("stretch", "saw", 0, begin))

    def test_names_that_are_none(self):
        for name in ("", "drill", "Saw", "saw ", "ta", "a b", "\n", "x" * 500):
            self.fault(((), "stretch"), saw_book(), "span", 0, ("stretch", name, 0, 11))
            self.fault(((), "stretch"), saw_book(), "span", None, ("stretch", name, 0, 11))

    def test_by_arcs(self):
        book = plain_book(2, length=4)
        self.fault(((), "stretch"), saw_book(1), "span", 5, ("stretch", "saw", 0, 4))
        book = book_of_tasks([task("a", 4, "saw"), task("b", 4, "press")], ("saw", "press"))
        self.just(book, "span", 8, ("stretch", "saw", 0, 3), [(0, 1)])
        self.just(book, "span", 4, ("stretch", "saw", 0, 3))

    def test_hours_at_their_bounds_and_beyond(self):
        book = saw_book()
        last = 9999999
        for first, behind in ((-last, last), (-last, -last + 1), (last - 1, last), (0, 1)):
            self.fault(((), "stretch"), book, "span", 12, ("stretch", "saw", first, behind))
            self.fault(None, book, "span", 4, ("stretch", "saw", first, behind))
        for first, behind in ((-last - 1, 0), (0, last + 1), (last, last + 1), (-last - 1, -last), (-10 ** 900, 10 ** 900)):
            self.fault(FORM, book, "span", 4, ("stretch", "saw", first, behind))

    def test_hours_that_do_not_rise(self):
        for first, behind in ((1, 0), (0, 0), (5, 5), (9999999, -9999999), (-1, -2)):
            self.fault(FORM, saw_book(), "span", 4, ("stretch", "saw", first, behind))


class Rings(Case):
    def test_without_a_ring(self):
        book = plain_book(3, [(0, 1, 2), (1, 2, 0)])
        for tasks in ((0, 1), (1, 0), (0, 1, 2), (2, 1, 0), (0, 2)):
            for bound in (-5, 0, None):
                self.fault(((), "ring"), book, "span", bound, ("ring", tasks))
                self.fault(((), "ring"), book, "span", bound, ("ring", tasks), [(0, 2)])

    def test_two_tasks_and_more(self):
        book = plain_book(4, [(0, 1, 2), (1, 2, 0)])
        for arcs in ([(1, 0)], [(2, 0)], [(2, 3), (3, 0)]):
            for bound in (-5, 0, 10 ** 900, None):
                for tasks in itertools.chain.from_iterable(itertools.permutations(range(4), k) for k in (2, 3, 4)):
                    self.fault(None, book, "span", bound, ("ring", tasks), arcs)

    def test_each_kind_shows_it_where_waits_and_arcs_go_round(self):
        book = book_of_tasks([task(NAMES[k], weight=int(k == 0)) for k in range(3)], ("saw",))
        papers = [("way", (0,)), ("way", (2, 0, 1)), ("crowd", (0, 1)), ("crowd", (2,)), ("ring", (0, 2)), ("fixed", (1,)),
                  ("fixed", (2, 1)), ("stretch", "saw", 0, 1), ("stretch", "", -9999999, 9999999), ("stretch", "no", 5, 6)]
        inner = [(), (1,), (None,), ([],), ({},), (("way", (0,)),), ("way", (0,)), (chain(70),), (deep("list", 140),),
                 (("way", (99,)), ("way", [0])), (10 ** 999,)]
        papers += [("cases", tasks, part) for tasks in ((0, 1), (2, 0), (0, 1, 2)) for part in inner]
        for paper in papers:
            for bound in (-5, 10 ** 900, None):
                self.fault(None, book, "span", bound, paper, RING)

    def test_their_form_and_tasks_are_asked_for_all_the_same(self):
        book = saw_book()
        for paper in (("cases", (0, 1), []), ("cases", (0, 1), None), ("cases", (0, 1)), ("cases", [0, 1], ()), ("ring",),
                      ("stretch", "saw", 1, 1), ("stretch", 5, 0, 1), ("way", (0,), ()), ("loop", (0, 1))):
            self.fault(FORM, book, "span", 4, paper, RING)
        for paper in (("cases", (0,), ()), ("cases", (0, 3), ()), ("cases", (0, 0), ()), ("ring", (0,)), ("ring", (1, 1)),
                      ("way", ()), ("way", (3,)), ("crowd", (0, 0)), ("fixed", (-1,))):
            self.fault(TASKS, book, "span", 4, paper, RING)

    def test_a_ring_by_the_arcs_of_cases(self):
        book = saw_book(2)
        for part in (("way", (1,)), ("cases", (0, 1), (None,) * 3), ("ring", (0, 1)), ("stretch", "no", 0, 1)):
            self.fault(None, book, "span", 8, cases((0, 1), ("way", (0, 1)), part), [(0, 1)])
            self.fault(None, book, "span", 8, cases((1, 0), part, ("way", (0, 1))), [(0, 1)])
        self.fault(((1,), "ring"), book, "span", 8, cases((0, 1), ("way", (0, 1)), ("ring", (0, 1))))


class Cases(Case):
    def test_the_pairs_in_their_order(self):
        book = saw_book()
        self.just_cases(book, 8, cases((0, 1), ("way", (0, 1)), ("way", (1, 0))))
        self.just_cases(book, 8, cases((1, 0), ("way", (1, 0)), ("way", (0, 1))))
        self.fault(((0,), "way"), book, "span", 8, cases((0, 1), ("way", (1, 0)), ("way", (0, 1))))
        self.fault(((0,), "way"), book, "span", 8, cases((1, 0), ("way", (0, 1)), ("way", (1, 0))))
        for order in itertools.permutations(range(3)):
            papers = [("way", pair) for pair in pairs_by_hand(order)]
            self.fault(None, book, "span", 8, cases(order, *papers))
            for one, other in itertools.combinations(range(6), 2):
                swapped = list(papers)
                swapped[one], swapped[other] = papers[other], papers[one]
                self.fault(((one,), "way"), book, "span", 8, cases(order, *swapped))

    def just_cases(self, book, bound, paper):
        self.fault(None, book, "span", bound, paper)
        self.fault(((0,), paper[2][0][0]), book, "span", bound + 1, paper)

    def test_too_few_and_too_many_papers(self):
        book = saw_book()
        way = ("crowd", (0, 1))
        for many in (0, 1, 3, 4, 6, 30):
            self.fault(((), "cases"), book, "span", 8, cases((0, 1), *[way] * many))
        for many in (0, 2, 3, 5, 7):
            self.fault(((), "cases"), book, "span", 8, cases((0, 1, 2), *[way] * many))
        self.fault(None, book, "span", 8, cases((0, 1), *[way] * 2))
        self.fault(None, book, "span", 8, cases((0, 1, 2), *[way] * 6))

    def test_tasks_that_can_all_run_in_one_hour(self):
        tasks = [task("a", 4, "saw"), task("b", 4, "press"), task("c", 4), task("d", 4, "saw")]
        book = book_of_tasks(tasks, ("saw", "press"))
        for some in ((0, 1), (0, 2), (1, 0, 2)):
            papers = [("way", (0,))] * (len(some) * (len(some) - 1))
            self.fault(((), "cases"), book, "span", 4, cases(some, *papers))
        for some in ((0, 3), (3, 1, 0)):
            papers = [("way", (0,))] * (len(some) * (len(some) - 1))
            self.fault(None, book, "span", 4, cases(some, *papers))

    def test_goods(self):
        for many, fault in ((3, None), (4, ((), "cases"))):
            book = book_of_tasks([task(NAMES[k], 4, "", (("oil", 2),)) for k in range(2)], (), (("oil", many),))
            self.fault(fault, book, "span", 8, cases((0, 1), ("way", (0, 1)), ("way", (1, 0))))
        for many, fault in ((5, None), (6, ((), "cases"))):
            book = book_of_tasks([task(NAMES[k], 4, "", (("oil", 2),)) for k in range(3)], (), (("oil", many),))
            papers = [("way", pair) for pair in pairs_by_hand((0, 1, 2))]
            self.fault(fault, book, "span", 8, cases((0, 1, 2), *papers))

    def test_like_places(self):
        book = saw_book()
        for some in ((0, 0), (1, 1, 1), (0, 1, 0)):
            papers = [("way", (0,))] * (len(some) * (len(some) - 1))
            self.fault(TASKS, book, "span", 4, cases(some, *papers))
            self.fault(TASKS, book, "span", 4, cases(some))

    def test_the_inner_paper_has_the_fault(self):
        book = book_of_tasks([task(NAMES[k], 4, "press" if k == 6 else "saw") for k in range(7)], ("saw", "press"))
        good = ("crowd", (0, 1))
        kinds = [(("crowd", (6,)), (), "crowd"), (("way", (6,)), (), "way"), (("way", (7,)), (), "tasks"),
                 (("way", [0]), (), "form"), (None, (), "form"), (("stretch", "no", 0, 1), (), "stretch"),
                 (("ring", (0, 1)), (), "ring"), (("fixed", (0,)), (), "fixed"), (cases((3, 5)), (), "cases"),
                 (cases((0,)), (), "tasks"), (cases((1, 6), good, good), (), "cases"),
                 (cases((3, 5), [], 1), (0,), "form"), (cases((3, 5), good, ("way", (6,))), (1,), "way")]
        for bad, path, word in kinds:
            for place in range(6):
                papers = [good] * 6
                papers[place] = bad
                inner = cases((0, 1, 2), *papers)
                self.fault(((place,) + path, word), book, "span", 8, inner)
                self.fault(((1, place) + path, word), book, "span", 8, cases((3, 4), good, inner))
                self.fault(((0, place) + path, word), book, "span", 8, cases((3, 4), inner, bad))
                self.fault(((0,) + path, word), book, "span", 8, cases((3, 4), bad, inner))

    def test_each_ahead_of_its_papers(self):
        book = saw_book()
        self.fault(((0,), "cases"), book, "span", 8, cases((0, 1), cases((0, 1), None), None))
        self.fault(((), "cases"), book, "span", 8, cases((0, 1), None))

    def test_the_arcs_of_all_cases_around(self):
        book = saw_book()
        ways = {}
        for one in pairs_by_hand((0, 1)):
            for other in pairs_by_hand((1, 2)):
                for third in pairs_by_hand((0, 2)):
                    arcs = [one, other, third]
                    order = [o for o in itertools.permutations(range(3)) if all(o.index(a) < o.index(b) for a, b in arcs)]
                    ways[(one, other, third)] = ("way", order[0]) if order else ("ring", (0, 1))

        def tree(third_of):
            return cases((0, 1), *[cases((1, 2), *[cases((0, 2), *[third_of(a, b, c) for c in pairs_by_hand((0, 2))])
                                                   for b in pairs_by_hand((1, 2))]) for a in pairs_by_hand((0, 1))])

        whole = tree(lambda a, b, c: ways[(a, b, c)])
        self.fault(None, book, "span", 12, whole)
        self.fault(((0, 0, 0), "way"), book, "span", 13, whole)
        self.fault(((0, 0), "cases"), book, "span", 12, put(whole, (2, 0, 2, 0, 2), ()))
        self.fault(((0, 1, 0), "way"), book, "span", 12, put(whole, (2, 0, 2, 1, 2, 0), ("way", (0, 1, 2))))

    def test_an_arc_that_a_wait_tells_already(self):
        book = book_of_tasks([task("a", 4, "saw"), task("b", 4, "saw")], ("saw",), waits=[(0, 1, 5)])
        paper = cases((0, 1), ("way", (0, 1)), ("ring", (0, 1)))
        self.fault(None, book, "span", 13, paper)
        self.fault(((0,), "way"), book, "span", 14, paper)

    def test_beside_900_arcs(self):
        book = saw_book(3)
        paper = cases((0, 1), cases((0, 2), ("way", (0, 1)), ("way", (2, 0, 1))), ("way", (1, 0)))
        self.fault(None, book, "span", 8, paper, [(0, 1)] * 900)
        book = saw_book(30, 1)
        arcs = [(a, b) for a in range(30) for b in range(a + 1, 30)] + [(0, 1)] * 465
        self.assertEqual(len(arcs), 900)
        self.fault(None, book, "span", 30, cases((5, 9), ("way", tuple(range(30))), ("ring", (0, 1))), arcs)


class Limits(Case):
    def test_sixty_within_each_other_and_one_more(self):
        book = saw_book(2)
        for many in (1, 2, 59, 60):
            self.fault(None, book, "span", 8, chain(many))
            self.fault(((0,) * (many - 1), "crowd"), book, "span", 9, chain(many))
        for many in (61, 62, 70):
            self.fault(((0,) * 60, "form"), book, "span", 8, chain(many))
        self.fault(((0,) * 60, "form"), book, "span", 8, chain(61, None))
        self.fault(((0,) * 59, "form"), book, "span", 8, chain(60, None))

    def test_sixty_below_another_place(self):
        book = saw_book(2)
        good = ("crowd", (0, 1))
        self.fault(None, book, "span", 8, cases((1, 0), good, good), [(0, 1)])
        self.fault(None, book, "span", 8, cases((0, 1), good, chain(60)), [(0, 1)])
        deeper = chain(59)
        self.fault(None, book, "span", 8, cases((1, 0), good, deeper))
        self.fault(((1,) + (0,) * 59, "form"), saw_book(3), "span", 8, cases((2, 0), good, chain(60)))

    def test_the_sixtieth_may_be_cases_that_show_it_by_a_ring(self):
        book = saw_book(2)
        self.fault(None, book, "span", 8, chain(60, cases((0, 1), chain(9), 5)), [(0, 1)] + RING)
        paper = cases((0, 1), ("crowd", (0, 1)), cases((0, 1), chain(99), 5))
        self.fault(None, book, "span", 8, paper, [(0, 1)])
        self.fault(((0,) * 59 + (0,), "form"), book, "span", 8, chain(60, cases((0, 1), ("crowd", (0, 1)), 5)))

    def wide(self, many, part=("crowd", (0, 1))):
        return cases(tuple(range(many)), *[part] * (many * (many - 1)))

    def test_two_thousand_in_all_and_one_more(self):
        book = saw_book(30)
        first = 1 + 870 + 870
        good = ("crowd", (0, 1))

        def paper(*rest):
            """Papers one within each other and beside, so many as are told by their TASKS."""
            parts = [good] * 870
            for place, many in enumerate(rest):
                parts[place] = self.wide(many)
            return cases(tuple(range(30)), *parts)

        def count(*rest):
            return 1 + 870 + sum(many * (many - 1) for many in rest)

        self.assertEqual((count(30), count(30, 16, 4, 3), count(30, 16, 4, 3, 2)), (first, 1999, 2001))
        with within(120):
            self.fault(None, book, "span", 8, paper(30, 16, 4, 3))
            self.fault(((869,), "form"), book, "span", 8, paper(30, 16, 4, 3, 2))
            self.fault(((867,), "form"), book, "span", 8, paper(30, 16, 4, 3, 2, 2))
            bad = paper(30, 16, 4, 3, 2)
            self.fault(((868,), "stretch"), book, "span", 8, put(bad, (2, 868), ("stretch", "no", 0, 1)))
            self.fault(((869,), "form"), book, "span", 8, put(bad, (2, 869), ("stretch", "no", 0, 1)))
            self.fault(((868,), "form"), book, "span", 8, put(bad, (2, 868), None))

    def test_what_is_not_gone_into_does_not_count(self):
        book = saw_book(30)
        big = self.wide(30, self.wide(30))
        paper = cases((0, 1), ("crowd", (0, 1)), big)
        with within(60):
            self.fault(None, book, "span", 8, paper, [(0, 1)])
            self.fault(None, book, "span", 8, big, RING)
            self.assertEqual(fault_in(book, "span", 8, big)[1], "form")


class Forms(Case):
    def test_things_of_any_kind(self):
        for thing in things():
            for arcs in (None, RING):
                self.fault(FORM, saw_book(), "span", 4, thing, arcs)
                self.fault(FORM, saw_book(), "span", 4, (thing,), arcs)
                self.fault(FORM, saw_book(), "span", 4, (thing, (0,)), arcs)

    def test_each_part_of_another_kind(self):
        good = [("way", (0,)), ("crowd", (0,)), ("ring", (0, 1)), ("fixed", (0,)), ("stretch", "saw", 0, 1),
                ("cases", (0, 1), (("way", (0,)),) * 2)]
        for paper in good:
            for place in range(1, len(paper)):
                for thing in things():
                    if form_by_hand(put(paper, (place,), thing)):
                        continue
                    self.fault(FORM, saw_book(), "span", 4, put(paper, (place,), thing))
                    self.fault(FORM, saw_book(), "span", 4, put(paper, (place,), thing), RING)

    def test_true_and_false_are_no_numbers(self):
        for paper in (("way", (True,)), ("way", (0, False)), ("ring", (True, 0)), ("cases", (False, 1), ()),
                      ("stretch", "saw", False, 1), ("stretch", "saw", 0, True), ("crowd", (True, True))):
            self.fault(FORM, saw_book(), "span", 4, paper)

    def test_lists_and_texts_in_a_tuples_place(self):
        for paper in (["way", (0,)], ("way", [0]), ("way", "0"), ("way", 0), ("way", {0: 0}), ("way", ((0,),)),
                      ("cases", (0, 1), [("way", (0,))] * 2), ("cases", [0, 1], ()), ("stretch", ("saw",), 0, 1),
                      ("stretch", None, 0, 1), ("stretch", "saw", "0", 1), ("way", ("0",)), ("way", (None,))):
            self.fault(FORM, saw_book(), "span", 4, paper)

    def test_other_words_and_other_many_parts(self):
        for paper in (("ways", (0,)), ("Way", (0,)), ("", (0,)), ("way ", (0,)), ("way",), ("way", (0,), (1,)), (), ("ring",),
                      ("cases", (0, 1)), ("cases", (0, 1), (), ()), ("stretch", "saw", 0), ("stretch", "saw", 0, 1, 2),
                      ("stretch",), ("fixed", (0,), ()), ((0,), "way"), ("form", (0,)), ("tasks", (0,)), "way", ("way",) * 3):
            self.fault(FORM, saw_book(), "span", 4, paper)

    def test_tasks_that_are_none(self):
        for tasks in ((3,), (-1,), (0, 3), (1000000,), (10 ** 999, 0), (0, -(10 ** 999))):
            for kind in ("way", "crowd", "ring", "fixed"):
                self.fault(TASKS, saw_book(), "span", 4, (kind, tasks))
            self.fault(TASKS, saw_book(), "span", 4, ("cases", tasks, ()))
        self.fault(None, saw_book(), "span", 4, ("way", (2,)))

    def test_tasks_that_stand_twice(self):
        for tasks in ((0, 0), (0, 1, 0), (1, 2, 2)):
            for kind in ("way", "crowd", "ring", "fixed"):
                self.fault(TASKS, saw_book(), "span", 4, (kind, tasks), [(0, 1)])
            self.fault(TASKS, saw_book(), "span", 4, ("cases", tasks, ()))

    def test_too_few_tasks(self):
        for kind in ("way", "crowd", "ring", "fixed"):
            self.fault(TASKS, saw_book(), "span", 4, (kind, ()))
        self.fault(TASKS, saw_book(), "span", 4, ("cases", (), ()))
        self.fault(TASKS, saw_book(), "span", 4, ("cases", (0,), ()))
        self.fault(TASKS, saw_book(), "span", 4, ("ring", (0,)))
        self.fault(((), "ring"), saw_book(), "span", 4, ("ring", (0, 1)))
        self.fault(((), "fixed"), saw_book(), "span", 4, ("fixed", (0,)))

    def test_which_word_comes_first(self):
        book = saw_book()
        self.fault(FORM, book, "span", 4, ("way", (9, True)))
        self.fault(FORM, book, "span", 4, ("cases", (9, 9), []))
        self.fault(FORM, book, "span", 4, ("way", (), ()))
        self.fault(TASKS, book, "span", 99, ("way", (0, 3)))
        self.fault(TASKS, book, "span", 99, ("cases", (0, 3), (None,)))
        self.fault(FORM, book, "span", 99, ("stretch", "no", 1, 0))
        self.fault(((), "cases"), book, "span", 99, ("cases", (0, 1), (None,)))
        self.fault(((0,), "form"), book, "span", 99, ("cases", (0, 1), (None, None)))
        book = saw_book(2)
        self.fault(((0,) * 60, "form"), book, "span", 8, chain(61, ("way", (9,))))
        self.fault(((0,) * 59, "tasks"), book, "span", 8, chain(60, ("way", (9,))))


def some_paper(rng, book, more):
    """A paper of any kind, with some that are none among its parts."""
    many = len(book[2])
    kind = rng.choice(["way", "crowd", "ring", "fixed", "stretch", "cases", "cases"] if more else ["way", "crowd", "ring"])
    if rng.random() < 0.02:
        return rng.choice([None, (), ("way",), ("way", [0]), ["way", (0,)], ("way", (many,)), ("cases", (0, 1), [])])
    tasks = tuple(rng.sample(range(many), min(many, rng.randint(1, 3))))
    if kind == "stretch":
        first = rng.randint(-2, 9)
        return ("stretch", rng.choice(("saw", "press", "oil")), first, first + rng.randint(1, 9))
    if kind != "cases":
        return (kind, tasks)
    tasks = tasks[:2] if rng.random() < 0.8 else tasks
    papers = len(tasks) * (len(tasks) - 1) - (rng.random() < 0.05)
    return ("cases", tasks, tuple(some_paper(rng, book, more - 1) for _ in range(papers)))


def found_paper(rng, book, worth, bound, arcs, more):
    """A paper that shows a bound, if one is met."""
    if is_ring(book, arcs):
        return ("ring", tuple(rng.sample(range(len(book[2])), 2)))
    told, stretch = longest(book, arcs, worth), stretch_for(book, arcs, worth, bound)
    if bound is not None and told is not None and told[0] >= bound:
        return ("way", tuple(told[1]))
    if stretch is not None:
        return ("stretch",) + stretch
    pairs = [pair for pair in itertools.combinations(range(len(book[2])), 2) if not can_all(book, list(pair))]
    pairs = [pair for pair in pairs if pair not in arcs and pair[::-1] not in arcs]
    if not pairs or not more:
        return ("way", (0,))
    tasks = rng.choice(pairs)
    return ("cases", tasks, tuple(found_paper(rng, book, worth, bound, list(arcs) + [arc], more - 1)
                                  for arc in (tasks, tasks[::-1])))


def good_plans(book, last):
    """All good plans with begins below last."""
    plans = itertools.product(range(last), repeat=len(book[2]))
    return [plan for plan in plans if fault_of(book, plan) is None]


class ByHand(Case):
    def counted(self, seed, many=6):
        for book in some_books(400, seed, many):
            for worth in WORTHS:
                if name_of_error(need_counted, book, worth) is None:
                    yield book, worth

    def test_papers_of_all_kinds(self):
        rng = random.Random(2)
        words = {}
        for book, worth in self.counted(2):
            for _ in range(4):
                arcs, bound = some_arcs(rng, book, 1), rng.choice([rng.randint(-5, 12), None])
                paper = some_paper(rng, book, 3)
                fault = fault_by_hand(book, worth, bound, paper, arcs)
                self.fault(fault, book, worth, bound, paper, arcs)
                words[fault and fault[1]] = words.get(fault and fault[1], 0) + 1
        self.assertEqual(set(words), {None, "form", "tasks", "way", "crowd", "ring", "fixed", "stretch", "cases"})
        self.assertGreater(words[None], 100)

    def test_papers_that_are_met(self):
        rng = random.Random(3)
        told = {True: 0, False: 0}
        for book, worth in self.counted(3):
            for bound in range(longest(book, [], worth)[0], longest(book, [], worth)[0] + 9):
                paper = found_paper(rng, book, worth, bound, [], 4)
                fault = fault_by_hand(book, worth, bound, paper, [])
                self.fault(fault, book, worth, bound, paper)
                if paper[0] == "cases":
                    told[fault is None] += 1
        self.assertGreater(min(told.values()), 20)

    def test_no_good_plan_is_below_what_is_shown(self):
        rng = random.Random(4)
        shown = never = 0
        for book, worth in self.counted(4, 3):
            plans = good_plans(book, 14)
            best = min([worth_of(book, plan, worth) for plan in plans], default=None)
            for bound in [None] + list(range(-5, 16, 2)):
                paper = found_paper(rng, book, worth, bound, [], 3)
                if shows(book, worth, bound, paper):
                    self.assertTrue(best is None or bound is not None and bound <= best)
                    shown += 1
                    never += bound is None
        self.assertGreater(shown, 500)
        self.assertGreater(never, 5)


if __name__ == "__main__":
    unittest.main()
