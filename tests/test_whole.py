"""The whole program (point 1; the interface's names), and its parts together."""

import copy
import importlib
import inspect
import random
import unittest

from boundsmith.booktext import book_of, book_text
from boundsmith.desk import Desk
from boundsmith.errors import NoPlan
from boundsmith.keeping import Papers, is_harder
from boundsmith.onemachine import fewest_late, least_late, least_sum, parted
from boundsmith.papers import fault_in, shows
from boundsmith.papertext import paper_of, paper_text
from boundsmith.plans import fault_of, worth_of
from boundsmith.search import best_plan
from boundsmith.shifts import closings, shut_book, shut_plan
from boundsmith.smaller import smaller
from boundsmith.sums import count_plan, sum_plan, sum_shown
from boundsmith.tworow import least_span, set_bound, span_of
from boundsmith.underway import Shop
from boundsmith.within import InTime, Never, in_hours
from tests.samples import counts, name_of_error, shop_book, some_books, task, things, tight_books

INTERFACE = {
    "names": {"is_whole": "thing", "is_among": "thing least most", "is_name": "thing", "number_of": "word"},
    "books": {"need_book": "thing", "ahead_of": "book", "gap_of": "book a b"},
    "booktext": {"book_text": "book", "book_of": "text"},
    "nets": {"first_of": "book task", "steps": "book arcs", "is_ring": "book arcs", "heads": "book arcs",
             "tails": "book arcs worth", "longest": "book arcs worth"},
    "bounds": {"way_bound": "book arcs worth way", "crowd_bound": "book arcs worth tasks",
               "best_crowd": "book arcs worth machine"},
    "plans": {"need_plan": "book thing", "fault_of": "book plan", "worth_of": "book plan worth"},
    "lists": {"plan_by": "book row"},
    "onemachine": {"least_late": "rows", "parted": "rows", "fewest_late": "rows", "least_sum": "rows"},
    "tworow": {"least_span": "rows", "set_bound": "rows side some", "span_of": "rows one two"},
    "likes": {"parted_span": "machines rows"},
    "papers": {"fault_in": "book worth bound paper arcs", "shows": "book worth bound paper arcs"},
    "papertext": {"paper_text": "paper", "paper_of": "text"},
    "stretches": {"latest_ends": "book arcs worth bound", "must_lie": "book arcs worth bound task first behind",
                  "is_stretch": "book arcs worth bound name first behind", "stretch_for": "book arcs worth bound"},
    "worths": {"need_counted": "book worth"},
    "crowdings": {"crowding_of": "book plan", "can_all": "book tasks"},
    "search": {"best_plan": "book worth most"},
    "within": {"in_hours": "book worth goal most"},
    "smaller": {"smaller": "book worth bound paper"},
    "keeping": {"is_harder": "book other"},
    "shifts": {"closings": "book weeks", "shut_book": "book weeks", "shut_plan": "book weeks plan"},
    "sums": {"sum_plan": "book", "sum_shown": "book", "count_plan": "book"},
}

CLASSES = {
    ("search", "Best"): {"__init__": "plan value bound paper cases"},
    ("within", "InTime"): {"__init__": "plan value"},
    ("within", "Never"): {"__init__": "paper"},
    ("within", "Open"): {"__init__": "bound paper"},
    ("underway", "Shop"): {"__init__": "book worth", "do": "deed", "undo": "", "redo": "", "the_hour": "", "its_book": "",
                           "following": "", "begun_tasks": "", "planned": "most"},
    ("keeping", "Papers"): {"__init__": "", "put": "book worth bound paper", "drop": "number", "told_paper": "number",
                            "still": "book", "best_bound": "book worth"},
    ("desk", "Desk"): {"__init__": "text worth", "say": "line"},
}


class Interface(unittest.TestCase):
    def test_functions(self):
        for place, functions in INTERFACE.items():
            module = importlib.import_module("boundsmith." + place)
            for name, words in functions.items():
                function = getattr(module, name)
                self.assertEqual(function.__module__, module.__name__)
                self.assertEqual(list(inspect.signature(function).parameters), words.split())
        self.assertIsNone(inspect.signature(fault_in).parameters["arcs"].default)
        self.assertIsNone(inspect.signature(shows).parameters["arcs"].default)

    def test_classes(self):
        for (place, name), methods in CLASSES.items():
            made = getattr(importlib.import_module("boundsmith." + place), name)
            self.assertEqual(made.__module__, "boundsmith." + place)
            for method, words in methods.items():
                self.assertIn(method, vars(made))
                self.assertEqual(list(inspect.signature(vars(made)[method]).parameters), ["self"] + words.split())


class Together(unittest.TestCase):
    def told(self, desk, line):
        return desk.say(line).split("\n")

    def test_by_texts_alone_and_by_functions(self):
        rng = random.Random(1)
        for book in [shop_book()] + tight_books(60, 1):
            if not book[0] or not counts(book, "span"):
                continue
            weeks = [(rng.choice(book[0]), 3, 5, rng.randint(4, 9), rng.randint(1, 3))]
            shut = shut_book(book, weeks)
            desk, shop, papers = Desk(book_text(shut), "span"), Shop(book_of(book_text(shut)), "span"), Papers()
            self.assertEqual(desk.say("book"), book_text(shut))
            for _ in range(6):
                number = papers_by(shop, papers)
                self.assertEqual(paper_by(self.told(desk, "best 2000")), papers.told_paper(number)[2])
                self.still(desk, shop, papers)
                plan = followed(shop)
                if plan is None:
                    break
                self.assertEqual(desk.say("plan " + " ".join(str(hour) for hour in plan)), "done")
                hour = shop.the_hour() + rng.randint(1, 4)
                shop.do(("hour", hour))
                self.assertEqual(desk.say(f"hour {hour}"), "done")
                number = rng.randrange(len(book[2]))
                is_done = name_of_error(shop.do, ("length", number, 4)) is None
                self.assertEqual(desk.say(f"length {number} 4"), "done" if is_done else "no deed")
                self.assertEqual(desk.say("book"), book_text(shop.its_book()))
                rows = [f"hour {shop.the_hour()}"]
                if shop.following() is not None:
                    rows.append("plan " + " ".join(str(begin) for begin in shop.following()))
                self.assertEqual(self.told(desk, "now"), rows)

    def still(self, desk, shop, papers):
        numbers = papers.still(shop.its_book())
        bounds = [papers.told_paper(number)[1] for number in numbers]
        rows = [f"{number}:{'never' if bound is None else bound}" for number, bound in zip(numbers, bounds)]
        self.assertEqual(desk.say("still"), " ".join(["papers"] + rows))

    def test_papers_as_texts(self):
        for book in tight_books(120, 2):
            if counts(book, "late"):
                try:
                    best = best_plan(book, "late", 2000)
                    bound, paper = best.bound, best.paper
                except NoPlan as never:
                    bound, paper = None, never.paper
                self.assertEqual(paper_of(paper_text(paper)), paper)
                if bound is not None:
                    desk = Desk(book_text(book), "late")
                    line = paper_text(paper).replace("\n", " / ")
                    self.assertEqual(desk.say(f"shows {bound} {line}"), "yes")
                    self.assertNotEqual(desk.say(f"shows {bound + 1} {line}"), "yes")
                    self.assertEqual(desk.say(f"smaller {bound} {line}"), paper_text(smaller(book, "late", bound, paper)))
                    self.assertEqual(desk.say(f"smaller {bound + 1} {line}"), "no paper")

    def test_goals_and_best_plans(self):
        for book in tight_books(120, 3):
            if counts(book, "span"):
                try:
                    value = best_plan(book, "span", 2000).value
                except NoPlan:
                    self.assertIsInstance(in_hours(book, "span", 10, 2000), Never)
                    continue
                self.assertIsInstance(in_hours(book, "span", value, 2000), Never)
                self.assertEqual(in_hours(book, "span", value + 1, 2000).value, value)
                self.assertIsInstance(in_hours(book, "span", value + 1, 2000), InTime)

    def test_what_is_told_for_a_harder_book(self):
        for book in tight_books(80, 4):
            if not counts(book, "span") or not book[0]:
                continue
            shut = shut_book(book, [(book[0][0], 2, 4, 9, 2)])
            self.assertIs(is_harder(book, shut), True)
            papers = Papers()
            number = papers_by(Shop(book, "span"), papers)
            self.assertEqual(papers.still(shut), [number])
            plan = plan_or_none(shut)
            bound = papers.told_paper(number)[1]
            if plan is not None:
                self.assertGreaterEqual(worth_of(shut, plan, "span"), bound)
                self.assertIsNone(fault_of(book, plan[:len(book[2])]))
                self.assertEqual(shut_plan(book, [(book[0][0], 2, 4, 9, 2)], plan[:len(book[2])]), plan)

    def test_one_machine_alone(self):
        rng = random.Random(5)
        for _ in range(60):
            rows = [(rng.randint(1, 5), 0, rng.randint(0, 15), rng.randint(1, 4)) for _ in range(rng.randint(1, 5))]
            tasks = tuple(task("abcde"[k], row[0], "saw", (), 0, row[2], row[3]) for k, row in enumerate(rows))
            book = (("saw",), (), tasks, (), ())
            self.assertEqual(best_plan(book, "late", 2000).value, least_late(rows)[0])
            self.assertEqual(sum_plan(book)[0], least_sum(rows)[0])
            self.assertEqual(sum_shown(book), least_sum(rows)[0])
            self.assertEqual(count_plan(book)[::2], fewest_late(rows)[::2])
            self.assertEqual(parted(rows)[0], least_late(rows)[0])

    def test_two_machines_in_a_row(self):
        rng = random.Random(6)
        for _ in range(20):
            pairs = [(rng.randint(1, 5), rng.randint(1, 5)) for _ in range(rng.randint(1, 4))]
            many = len(pairs)
            tasks = [task("a" + "abcd"[k], pairs[k][0], "saw") for k in range(many)]
            tasks += [task("b" + "abcd"[k], pairs[k][1], "press") for k in range(many)]
            book = (("saw", "press"), (), tuple(tasks), tuple((k, many + k, 0) for k in range(many)), ())
            span, order, (side, some) = least_span(pairs)
            self.assertEqual(best_plan(book, "span", 2000).value, span)
            self.assertEqual((span_of(pairs, order, order), set_bound(pairs, side, some)), (span, span))


def plan_or_none(book):
    try:
        return best_plan(book, "span", 2000).plan
    except NoPlan:
        return None


def papers_by(shop, papers):
    """The number of the paper that is told of a shop's book."""
    try:
        best = shop.planned(2000)
        return papers.put(shop.its_book(), "span", best.bound, best.paper)
    except NoPlan as never:
        return papers.put(shop.its_book(), "span", None, never.paper)


def paper_by(rows):
    """The paper of an answer to a best line."""
    return paper_of("\n".join(rows[2 if rows[0].startswith("best") else 1:]))


def followed(shop):
    """The best plan, which is followed from then on; None where there is none."""
    try:
        plan = shop.planned(2000).plan
    except NoPlan:
        return None
    shop.do(("plan", plan))
    return plan


class Own(unittest.TestCase):
    def test_nothing_that_is_handed_in_is_changed(self):
        for book in [shop_book()] + some_books(30, 7):
            if not counts(book, "span"):
                continue
            weeks = [(machine, 3, 5, 7, 2) for machine in book[0]]
            before = copy.deepcopy((book, weeks))
            shop, papers = Shop(book, "span"), Papers()
            number = papers_by(shop, papers)
            bound, paper = papers.told_paper(number)[1:]
            smaller(book, "span", bound, paper)
            in_hours(book, "span", 9, 50)
            closings(book, weeks)
            shut_book(book, weeks)
            if followed(shop) is not None:
                shop.do(("hour", 3))
            is_harder(book, shop.its_book())
            papers.still(shop.its_book())
            self.assertEqual((book, weeks), before)

    def test_refusals_of_any_kind(self):
        book = shop_book()
        shop, papers, desk = Shop(book, "span"), Papers(), Desk(book_text(book), "span")
        for thing in things():
            told = {
                "BadWorth": [(best_plan, book, thing, 5), (in_hours, book, "sum", 5, 5), (in_hours, book, thing, None, 5),
                             (smaller, book, thing, 5, None), (papers.put, book, thing, 5, None), (Shop, book, thing),
                             (Desk, book_text(book), thing)],
                "BadMost": [(best_plan, book, "span", thing), (in_hours, book, "span", 5, thing), (shop.planned, thing)],
                "BadPaper": [(smaller, book, "span", 5, thing), (papers.put, book, "span", thing, None)],
                "BadDeed": [(shop.do, thing), (shop.do, ("hour", thing, thing)), (shop.do, ("plan", thing))],
                "NoDeed": [(papers.drop, thing), (papers.told_paper, thing)],
                "BadRows": [(closings, book, thing), (shut_book, book, thing), (shut_plan, book, thing, None)],
                "BadBook": [(closings, thing, []), (sum_plan, thing), (sum_shown, thing), (count_plan, thing)],
                "BadText": [(Desk, thing, "span")],
            }
            good = {"BadWorth": thing in ("span", "late") if isinstance(thing, str) else False,
                    "BadMost": type(thing) is int and 0 <= thing <= 2000, "BadRows": thing == []}
            for name, calls in told.items():
                for call, *parts in calls:
                    if not good.get(name):
                        self.assertEqual(name_of_error(call, *parts), name, (call, str(thing)[:60]))
            self.assertEqual(desk.say(thing), "no line")
        self.assertEqual((shop.the_hour(), shop.following(), papers.still(book)), (0, None, []))


if __name__ == "__main__":
    unittest.main()
