"""A desk (point 105; the interface's desk.py)."""

import random
import time
import unittest

from boundsmith.booktext import book_of, book_text
from boundsmith.desk import Desk
from boundsmith.errors import NoPlan
from boundsmith.keeping import Papers
from boundsmith.papers import fault_in
from boundsmith.papertext import paper_of, paper_text
from boundsmith.search import best_plan
from boundsmith.smaller import smaller
from boundsmith.underway import Shop
from boundsmith.within import InTime, Never, in_hours
from tests.samples import (
    book_of_tasks, counts, error_of, name_of_error, shop_book, some_books, task, things, tight_books, within)
from tests.test_search import gaps_book, no_plan_book

JOBS = """machine saw
machine press
good oil 2
task a 4 saw 0 9 1
task b 3 saw 0 20 1 oil:1
task c 2 saw 0 - 1
task d 5 press 0 - 1
wait a d 1"""

FULL = ["plan 0 4 7 5", "hour 3", "length 1 5", "task e 2 - 0 - 1", "gone 2", "wait 0 1 2", "due 1 -", "closed off saw 9 12",
        "undo", "redo", "now", "book", "best 5", "within 9 5", "shows 9 way 0", "smaller 9 crowd 0 1 2", "still"]


class Case(unittest.TestCase):
    def told(self, desk, *pairs):
        for line, answer in pairs:
            self.assertEqual(desk.say(line), answer, line)

    def all(self, desk, answer, *lines):
        for line in lines:
            self.assertEqual(desk.say(line), answer, str(line)[:80])

    def same(self, desk, answer, *lines):
        """The lines are answered so, and all stands as it stood."""
        before = [desk.say(line) for line in ("now", "book", "still")]
        self.all(desk, answer, *lines)
        self.assertEqual([desk.say(line) for line in ("now", "book", "still")], before)


class Made(Case):
    def test_refused(self):
        for text in things() + ["machine", "task a 0 x", b"task a 1 - 0 - 1"]:
            error = error_of(Desk, text, "span")
            self.assertEqual(type(error).__name__, "BadText")
            self.assertEqual(error.line, 1 if isinstance(text, str) else 0)
        self.assertEqual(error_of(Desk, JOBS + "\nwait a x 1", "span").line, 9)
        self.assertEqual(error_of(Desk, JOBS + "\nwait d a 1", "span").what, "ring")
        self.assertEqual(name_of_error(Desk, "machine saw", "span"), "BadBook")
        for worth in things() + ["sum", "count", "Span"]:
            self.assertEqual(name_of_error(Desk, JOBS, worth), None if worth == "span" else "BadWorth")
            self.assertEqual(name_of_error(Desk, JOBS + "\nwait d a 1", worth), "BadBook")
            self.assertEqual(name_of_error(Desk, JOBS + "\n", worth), "BadText")
        self.assertEqual(name_of_error(Desk, "task a 1 - 0 - 1", "late"), "BadWorth")
        self.assertEqual(name_of_error(Desk, "task a 1 - 0 1 0", "span"), "BadWorth")
        self.assertIsNone(name_of_error(Desk, "task a 1 - 0 1 0", "late"))

    def test_another_desk_beside(self):
        one, other = Desk(JOBS, "span"), Desk(JOBS, "late")
        self.told(one, ("plan 5 9 12 10", "done"), ("hour 5", "done"), ("best 50", "best 15 bound 15\nplan 5 9 12 10\nway 0 3"))
        self.told(other, ("now", "hour 0"), ("still", "papers"), ("undo", "no deed"))


class Deeds(Case):
    def test_each(self):
        desk = Desk(JOBS, "span")
        self.told(desk, ("now", "hour 0"), ("book", JOBS), ("plan 0 4 7 5", "done"), ("now", "hour 0\nplan 0 4 7 5"),
                  ("hour 3", "done"), ("now", "hour 3\nplan 0 4 7 5"), ("length 0 3", "done"), ("length 1 5", "done"),
                  ("now", "hour 3"), ("task e 2 - 0 - 1 oil:2", "done"), ("gone 2", "done"), ("wait 0 1 2", "done"),
                  ("due 1 -", "done"), ("due 2 5", "done"), ("closed off saw 9 12", "done"))
        self.assertEqual(desk.say("book").split("\n"), [
            "machine saw", "machine press", "good oil 2", "task a 3 saw 0 9 1", "task b 5 saw 3 - 1 oil:1",
            "task d 5 press 3 5 1", "task e 2 - 3 - 1 oil:2", "task off 3 saw 9 - 0", "wait a d 1", "wait a b 2", "fixed a 0",
            "fixed off 9"])
        for _ in range(9):
            self.assertEqual(desk.say("undo"), "done")
        self.told(desk, ("now", "hour 0\nplan 0 4 7 5"), ("undo", "done"), ("now", "hour 0"), ("undo", "no deed"))
        for _ in range(10):
            self.assertEqual(desk.say("redo"), "done")
        self.told(desk, ("redo", "no deed"), ("now", "hour 3"))

    def test_refused_ones(self):
        desk = Desk(JOBS, "span")
        self.told(desk, ("plan 0 4 7 5", "done"), ("hour 2", "done"), ("hour 3", "done"), ("undo", "done"))
        self.same(desk, "no deed", "plan 0 4 7", "plan 0", "plan 0 4 7 5 9", "plan 0 4 6 5", "plan 1 5 8 6", "hour 2", "hour 0",
                  "hour 1000001", "hour 9999999", "length 0 1", "length 0 1001", "length 1 0", "length 4 1", "gone 0", "gone 4",
                  "gone 9999999", "wait 1 0 0", "wait 1 1 0", "wait 0 4 0", "wait 9 1 0", "wait 0 1 1001", "due 4 5", "due 4 -",
                  "due 0 1000001", "task a 2 - 0 - 1", "task e 0 - 0 - 1", "task e 1001 - 0 - 1", "task e 2 lathe 0 - 1",
                  "task e 2 - 0 - 1 oil:3", "task e 2 - 0 - 1 ink:1", "task e 2 - 0 - 1 oil:1 oil:1", "task e 2 - 0 - 1001",
                  "task e 2 - 1000001 - 1", "closed a saw 9 12", "closed off lathe 9 12", "closed off saw 1 12",
                  "closed off saw 9 9", "closed off saw 9 1010", "closed off saw 1000001 1000002", "closed off saw 12 9")
        self.told(desk, ("redo", "done"), ("redo", "no deed"))

    def test_the_hour_goes_on_with_a_plan(self):
        for worth in ("span", "late"):
            desk = Desk(JOBS, worth)
            self.same(desk, "no deed", "hour 3", "hour 1", "hour 0", "hour 1000000", "hour 1000001")
            self.same(desk, "no line", "hour", "hour 3 4", "hour x", "hour -3")
            self.told(desk, ("now", "hour 0"), ("plan 0 4 7 5", "done"), ("hour 3", "done"), ("now", "hour 3\nplan 0 4 7 5"))
            for line, plan in (("task e 2 - 0 - 1", "0 4 7 5 9"), ("closed off press 90 95", "0 4 7 5 90"),
                               ("length 0 5", "0 5 8 6"), ("length 1 4", "0 4 8 5"), ("wait 2 1 0", "0 6 4 5")):
                self.told(desk, (line, "done"), ("now", "hour 3"))
                self.same(desk, "no deed", "hour 4", "hour 3", "hour 1000000")
                self.told(desk, ("plan " + plan, "done"), ("hour 4", "done"), ("now", "hour 4\nplan " + plan),
                          ("undo", "done"), ("undo", "done"))
                self.same(desk, "no deed", "hour 4")
                self.told(desk, ("redo", "done"), ("hour 5", "done"), ("undo", "done"), ("undo", "done"), ("undo", "done"),
                          ("now", "hour 3\nplan 0 4 7 5"))
            self.told(desk, ("undo", "done"), ("undo", "done"))
            self.same(desk, "no deed", "hour 3")
            self.told(desk, ("redo", "done"), ("redo", "done"), ("now", "hour 3\nplan 0 4 7 5"))

    def test_words_that_are_no_names(self):
        desk = Desk(JOBS, "span")
        for word in ("-", "Off", "off1", "1", "0", "abcdefghi", "a:b", "/", "-5", "00"):
            self.same(desk, "no deed", f"closed {word} saw 9 12", f"closed off {word} 9 12", f"closed {word} {word} 9 12")
            self.same(desk, "no line", f"closed {word} saw 9 x", f"closed {word} saw 09 12", f"closed {word} saw 9", f"closed {word}")

    def test_something_counts_behind_each(self):
        desk = Desk("task a 3 - 0 9 1\ntask b 3 - 0 - 1", "late")
        self.same(desk, "no deed", "gone 0", "due 0 -")
        self.told(desk, ("due 1 4", "done"), ("gone 0", "done"))
        self.same(desk, "no deed", "gone 0", "due 0 -")


class Lines(Case):
    def test_a_word_too_few_and_too_many(self):
        for line in FULL:
            words = line.split(" ")
            bad = [line + " x", " ".join(words[:-1])] if len(words) > 1 else [line + " x", line + " 1", line + " -"]
            for other in bad:
                if words[0] in ("shows", "smaller"):
                    other = " ".join(words[:2])
                if words[0] == "plan":
                    other = "plan"
                self.same(Desk(JOBS, "span"), "no line", other)
        desk = Desk(JOBS, "span")
        self.same(desk, "no line", "plan", "hour", "length 1", "task", "task e 2 - 0 -", "gone", "wait 0 1", "due 1", "best",
                  "within 9", "within", "shows", "shows 9", "smaller", "smaller 9", "closed off saw 9", "gone 1 2", "hour 1 2",
                  "length 1 2 3", "wait 0 1 2 3", "due 1 2 3", "best 1 2", "within 9 5 5", "closed off saw 9 12 13")

    def test_numbers(self):
        for word in ("00", "01", "007", "12345678", "10000000", "-1", "-0", "+1", "a", "1a", "1.0", "1_0", "0x1", "None", "-", "--1"):
            desk = Desk(JOBS, "span")
            lines = [f"plan {word}", f"plan 0 4 7 {word}", f"hour {word}", f"length {word} 5", f"length 1 {word}", f"gone {word}",
                     f"wait {word} 1 2", f"wait 0 {word} 2", f"wait 0 1 {word}", f"due {word} 5", f"due {word} -",
                     f"closed off saw {word} 12", f"closed off saw 9 {word}", f"best {word}", f"within 9 {word}",
                     f"task e {word} - 0 - 1", f"task e 2 - {word} - 1", f"task e 2 - 0 - {word}",
                     f"task e 2 - 0 - 1 oil:{word}"]
            lines += [f"due 1 {word}", f"task e 2 - 0 {word} 1"] if word != "-" else []
            if word != "-1":
                lines += [f"within {word} 5", f"shows {word} way 0", f"smaller {word} way 0"]
            self.same(desk, "no line", *lines)
        desk = Desk(JOBS, "span")
        self.same(desk, "no deed", "hour 9999999", "gone 9999999", "plan 9999999 0 0 0", "length 9999999 9999999")
        self.same(desk, "yes", "shows -1 way 0", "shows 0 way 0", "shows -9999999 way 0")
        self.same(desk, "no way", "shows 9999999 way 0")

    def test_blanks(self):
        for line in FULL:
            desk = Desk(JOBS, "span")
            bad = [" " + line, line + " ", line.replace(" ", "  "), "\n" + line, line + "\n", line.replace(" ", "\n"),
                   line.replace(" ", "\t"), line.upper(), line.replace(" ", " \n ")]
            self.same(desk, "no line", *[other for other in bad if other != line])
        desk = Desk(JOBS, "span")
        self.same(desk, "no line", "", " ", "  ", "\n", "now\nbook", "shows 9 way 0  / way 1", "shows 9 way 0 /  way 1",
                  "shows 9  way 0", "shows 9 way 0 ", "shows 9 ", "shows 9 way 0\nway 1", "smaller 9 way  0", "smaller  9 way 0")

    def test_what_is_no_text(self):
        desk = Desk(JOBS, "span")
        for thing in things() + [b"now", ["now"], ("now",), {"now": 1}, 5]:
            self.assertEqual(desk.say(thing), "no line")

    def test_other_words(self):
        desk = Desk(JOBS, "span")
        self.same(desk, "no line", "Now", "nows", "plans 0 4 7 5", "machine saw", "good oil 2", "fixed a 0", "say now", "drop 1",
                  "hour3", "done", "no", "-", "/", "task a", "papers", "never", "bound 5", "x" * 20000, "wait a d 1", "gone a",
                  "yes", "length a 5", "due a 5", "task e x", "0", "closings", "kept")

    def test_tasks_by_themselves(self):
        desk = Desk(JOBS, "span")
        self.same(desk, "no line", "task e 2 - 0 -", "task E 2 - 0 - 1", "task - 2 - 0 - 1", "task e 2 Saw 0 - 1",
                  "task e 2 - - - 1", "task e - - 0 - 1", "task e 2 - 0 - -", "task e 2 - 0 - 1 oil", "task e 2 - 0 - 1 oil:",
                  "task e 2 - 0 - 1 :1", "task e 2 - 0 - 1 oil:1:1", "task e 2 - 0 - 1 oil:01", "task abcdefghi 2 - 0 - 1",
                  "task e 2 - 0 - 1 oil 1", "task e 2 - 0 - 1 oil:1 x")
        self.told(desk, ("task e 2 - 0 - 1", "done"), ("task f 2 saw 3 5 1 oil:1", "done"))


class Plans(Case):
    def test_best(self):
        desk = Desk(JOBS, "span")
        self.told(desk, ("still", "papers"), ("best 2000", "best 10 bound 10\nplan 0 4 7 5\nway 0 3"), ("still", "papers 1:10"),
                  ("best 0", "best 10 bound 10\nplan 0 4 7 5\nway 0 3"), ("still", "papers 1:10 2:10"))
        self.same(desk, "too many cases", "best 2001", "best 9999999", "within 5 2001", "within -5 9999999")
        self.told(desk, ("undo", "no deed"), ("task e 6 press 0 - 1", "done"))
        self.assertEqual(desk.say("best 2000").split("\n")[0], "best 11 bound 11")
        self.told(desk, ("still", "papers 1:10 2:10 3:11"), ("undo", "done"), ("still", "papers 1:10 2:10"),
                  ("length 0 1", "done"), ("still", "papers"), ("undo", "done"), ("still", "papers 1:10 2:10"))

    def test_never(self):
        desk = Desk("task a 4 - 0 - 1\ntask b 4 - 0 - 1\nwait a b 0\nfixed b 3", "span")
        self.told(desk, ("best 5", "never\nfixed 0 1"), ("still", "papers 1:never"), ("within 5 0", "never\nfixed 0 1"),
                  ("within -5 2000", "never\nfixed 0 1"), ("within 9999999 0", "never\nfixed 0 1"), ("still", "papers 1:never"),
                  ("plan 0 3", "no deed"), ("length 0 3", "done"), ("still", "papers"),
                  ("best 5", "best 7 bound 7\nplan 0 3\nway 0 1"), ("still", "papers 2:7"))

    def test_no_plan_met(self):
        book = gaps_book(4)
        desk = Desk(book_text(book), "span")
        told = best_plan(book, "span", 3)
        self.assertIsNone(told.plan)
        answer = f"bound {told.bound}\n{paper_text(told.paper)}"
        self.told(desk, ("best 3", answer), ("still", f"papers 1:{told.bound}"))
        self.assertEqual(desk.say("best 2000").split("\n")[0], "never")
        self.told(desk, ("still", f"papers 1:{told.bound} 2:never"))
        self.assertEqual(desk.say("within 5 2000").split("\n")[0], "never")
        self.assertEqual(desk.say("within 900 3").split("\n")[0].split(" ")[0], "bound")

    def test_within(self):
        desk = Desk(JOBS, "span")
        self.told(desk, ("within 11 0", "best 10\nplan 0 4 7 5"), ("within 10 2000", "never\nway 0 3"),
                  ("within -5 0", "never\nway 0 3"), ("within 9999999 0", "best 10\nplan 0 4 7 5"), ("still", "papers"))

    def test_only_best_keeps(self):
        desk = Desk(JOBS, "span")
        for line in ("within 9 5", "shows 10 way 0 3", "smaller 10 way 0 3", "now", "book", "plan 0 4 7 5", "still"):
            desk.say(line)
            self.assertEqual(desk.say("still"), "papers")
        for number in range(1, 63):
            desk.say("best 0")
        self.assertEqual(desk.say("still"), "papers " + " ".join(f"{number}:10" for number in range(3, 63)))


class Looked(Case):
    def test_shows(self):
        desk = Desk(JOBS, "span")
        self.told(desk, ("shows 10 way 0 3", "yes"), ("shows 11 way 0 3", "no way"), ("shows 9 crowd 0 1 2", "yes"),
                  ("shows 10 crowd 0 1 2", "no crowd"), ("shows 9 cases 0 1 / way 0 1 / crowd 1 0 2", "no 0 way"),
                  ("shows 7 cases 0 1 / way 0 1 / way 1 0", "yes"), ("shows 8 cases 0 1 / crowd 0 1 2 / way 1 0", "no 1 way"),
                  ("shows 7 cases 0 1 / cases 1 2 / way 1 2 / way 0 1 / way 1 0", "no 0 0 way"),
                  ("shows 7 cases 0 3 / way 0 / way 0", "no cases"), ("shows 7 ring 0 1", "no ring"),
                  ("shows 7 way 9", "no tasks"), ("shows 7 cases 0", "no tasks"), ("shows 7 way", "no tasks"),
                  ("shows 9 stretch saw 0 8", "yes"), ("shows 9 stretch none 0 8", "no stretch"), ("shows -5 fixed 0", "no fixed"))

    def test_rows_that_can_not_stand(self):
        desk = Desk(JOBS, "span")
        for word in ("shows", "smaller"):
            self.same(desk, "bad row 1", f"{word} 7 x", f"{word} 7 way 00", f"{word} 7 way -1", f"{word} 7 / way 0", f"{word} 7 /",
                      f"{word} 7 / / way 0", f"{word} 7 way 0 /", f"{word} 7 stretch saw 8 0", f"{word} 7 stretch 0 5",
                      f"{word} 7 0", f"{word} 7 -", f"{word} 7 way a")
            self.same(desk, "bad row 2", f"{word} 7 way 0 / way 1", f"{word} 7 cases 0 1", f"{word} 7 cases 0 1 / x / way 0",
                      f"{word} 7 cases 0 1 / / way 0 / way 1", f"{word} 7 cases 0 1 / way 0 1 /", f"{word} 7 cases 0 1 / / / way 1")
            self.same(desk, "bad row 3", f"{word} 7 cases 0 1 / way 0 1", f"{word} 7 cases 0 1 / way 0 / stretch saw 1 1")
            self.same(desk, "bad row 4", f"{word} 7 cases 0 1 / way 0 1 / way 1 0 / way 1")
            deep = " / ".join(["cases 0 1"] * 60 + ["way 0"] * 61)
            self.same(desk, "bad row 61", f"{word} 7 {deep}")
            wide = " / ".join(["cases " + " ".join(str(k) for k in range(46))] + ["way 0"] * 2070)
            self.same(desk, "bad row 2001", f"{word} 7 {wide}")

    def test_a_slash_elsewhere(self):
        desk = Desk(JOBS, "span")
        self.told(desk, ("shows 7 stretch a/b 0 5", "no stretch"), ("shows 7 stretch / 0 5", "bad row 1"),
                  ("shows 7 stretch // 0 5", "no stretch"), ("shows 7 stretch /x 0 5", "no stretch"),
                  ("shows 7 cases 0 1 / stretch x/ 0 5 / way 0", "no 0 stretch"), ("shows 7 way 0/way 1", "bad row 1"))

    def test_smaller(self):
        desk = Desk(JOBS, "span")
        self.told(desk, ("smaller 9 crowd 0 1 2", "crowd 0 1 2"), ("smaller 5 cases 1 2 / crowd 1 2 / crowd 2 1", "crowd 1 2"),
                  ("smaller 7 cases 0 1 / way 0 1 / way 1 0", "cases 0 1\nway 0 1\nway 1 0"), ("smaller 10 way 0 3", "way 0 3"),
                  ("smaller 11 way 0 3", "no paper"), ("smaller 7 way 9", "no paper"), ("smaller 7 ring 0 1", "no paper"),
                  ("smaller 7 way", "no paper"), ("smaller -7 stretch saw 0 8", "stretch saw 0 8"))

    def test_by_the_book_as_it_stands(self):
        desk = Desk(JOBS, "span")
        self.told(desk, ("shows 12 way 0", "no way"), ("plan 8 12 15 13", "done"), ("hour 8", "done"), ("shows 12 way 0", "yes"), ("smaller 12 way 0", "way 0"),
                  ("undo", "done"), ("shows 12 way 0", "no way"), ("smaller 12 way 0", "no paper"))


class Words(Case):
    def test_names_that_are_words_of_lines(self):
        text = "\n".join(["machine now", "machine never", "good way 2", "good plan 3", "task best 3 now 0 - 1 way:1",
                          "task undo 2 never 0 9 1 plan:2", "task task 4 now 0 - 1", "wait best undo 1", "fixed task 5"])
        desk = Desk(text, "span")
        self.told(desk, ("book", text), ("plan 0 4 5", "done"), ("now", "hour 0\nplan 0 4 5"), ("closed still now 20 30", "done"),
                  ("closed book never 20 30", "done"), ("task hour 2 now 0 - 1 way:1", "done"), ("shows 9 stretch now 0 8", "yes"),
                  ("shows 9 stretch way 0 8", "no stretch"), ("shows 9 stretch stretch 0 8", "no stretch"))
        self.assertIn("\ntask still 10 now 20 - 0\n", desk.say("book"))


def some_line(rng, shop):
    """A line that may be one, as the shop stands."""
    many = len(shop.its_book()[2])
    number, hour = rng.randint(0, many), shop.the_hour()
    kinds = ["plan {}", "hour {}", "length {} {}", "task {} {} {} 0 {} 1", "gone {}", "wait {} {} {}", "due {} {}",
             "closed {} {} {} {}", "undo", "redo", "now", "book", "best {}", "within {} {}", "shows {} {}", "smaller {} {}", "still"]
    kind = rng.choice(kinds)
    name = rng.choice(["x", "y", "z", "best", "9"])
    machine = rng.choice(("-",) + shop.its_book()[0])
    few = rng.choice([0, 1, 2, 20, 2001, "x"] + [2000] * 4)
    hours = " ".join(str(rng.randint(0, 20)) for _ in range(many))
    paper = rng.choice(["way 0", "crowd 0 1", "way 0 1", "ring 0 1", "fixed 0 1", "stretch saw 0 9", "stretch oil -2 9", "way 0 /",
                        "cases 0 1 / way 0 1 / way 1 0", "cases 0 1 / crowd 0 1 / crowd 0 1", "cases 1 0 / way 0"])
    told = {
        "plan": [hours], "hour": [hour + rng.randint(0, 3)], "length": [number, rng.randint(0, 7)],
        "task": [name, rng.randint(0, 5), machine, rng.choice(["-", 9])], "gone": [number],
        "wait": [rng.randint(0, many), number, rng.randint(0, 2)], "due": [number, rng.choice(["-", 5, 20])],
        "closed": [name, machine, hour + rng.randint(-1, 5), hour + rng.randint(3, 9)], "best": [few],
        "within": [rng.randint(-9, 20), few], "shows": [rng.randint(-5, 12), paper], "smaller": [rng.randint(-9, 8), paper],
    }
    if kind.startswith("plan") and rng.random() < 0.9:
        best = best_of(shop)
        if best is not None:
            return "plan " + " ".join(str(begin) for begin in best)
    line = kind.format(*told.get(kind.split(" ")[0], []))
    return line + rng.choice([""] * 30 + [" ", " 1", "\n"])


def best_of(shop):
    try:
        return shop.planned(20).plan
    except NoPlan:
        return None


class Beside:
    """What a desk answers, by the functions beside it."""

    def __init__(self, text, worth):
        self.shop, self.papers, self.worth = Shop(book_of(text), worth), Papers(), worth

    def say(self, line):
        words = line.split(" ")
        if "" in words or "\n" in line:
            return "no line"
        try:
            return self.answer(words)
        except ValueError as error:
            name = type(error).__name__
            told = {"BadDeed": "no deed", "NoDeed": "no deed", "BadMost": "too many cases", "BadPaper": "no paper"}
            return f"bad row {error.line}" if name == "BadText" else told.get(name, "no line")

    def answer(self, words):
        word, rest = words[0], words[1:]
        many = {"hour": 1, "length": 2, "gone": 1, "wait": 3, "due": 2, "closed": 4, "best": 1, "within": 2, "now": 0, "book": 0,
                "undo": 0, "redo": 0, "still": 0}
        if word in many and len(rest) != many[word]:
            return "no line"
        if word in ("plan", "hour", "length", "gone", "wait"):
            numbers = tuple(int(part) for part in rest)
            self.shop.do((word, numbers) if word == "plan" else (word,) + numbers)
        elif word == "due":
            self.shop.do((word, int(rest[0]), None if rest[1] == "-" else int(rest[1])))
        elif word == "closed":
            if int(rest[2]) < 0:
                return "no line"
            self.shop.do((word, rest[0], rest[1], int(rest[2]), int(rest[3])))
        elif word == "task":
            book = error_of(book_of, "machine saw\nmachine press\n" + " ".join(words)) if len(rest) == 6 else 5
            if book == 5 or type(book).__name__ == "BadText":
                return "no line"
            machine = "" if rest[2] == "-" else rest[2]
            due = None if rest[4] == "-" else int(rest[4])
            self.shop.do((word, (rest[0], int(rest[1]), machine, (), int(rest[3]), due, int(rest[5]))))
        elif word == "undo":
            self.shop.undo()
        elif word == "redo":
            self.shop.redo()
        else:
            return self.look(word, rest)
        return "done"

    def look(self, word, rest):
        book = self.shop.its_book()
        if word == "now":
            return "\n".join([f"hour {self.shop.the_hour()}"] + self.rows(self.shop.following()))
        if word == "book":
            return book_text(book)
        if word == "best":
            try:
                best = best_plan(book, self.worth, int(rest[0]))
                bound, paper = best.bound, best.paper
                head = f"bound {bound}" if best.plan is None else f"best {best.value} bound {bound}"
                rows = [head] + self.rows(best.plan)
            except NoPlan as never:
                bound, paper, rows = None, never.paper, ["never"]
            self.papers.put(book, self.worth, bound, paper)
            return "\n".join(rows + [paper_text(paper)])
        if word == "within":
            told = in_hours(book, self.worth, int(rest[0]), int(rest[1]))
            if isinstance(told, InTime):
                return "\n".join([f"best {told.value}"] + self.rows(told.plan))
            return ("never" if isinstance(told, Never) else f"bound {told.bound}") + "\n" + paper_text(told.paper)
        if word == "still":
            bounds = [(number, self.papers.told_paper(number)[1]) for number in self.papers.still(book)]
            return " ".join(["papers"] + [f"{n}:{'never' if bound is None else bound}" for n, bound in bounds])
        paper = paper_of(" ".join(rest[1:]).replace(" / ", "\n"))
        if word == "smaller":
            return paper_text(smaller(book, self.worth, int(rest[0]), paper))
        fault = fault_in(book, self.worth, int(rest[0]), paper)
        return "yes" if fault is None else " ".join(["no"] + [str(part) for part in fault[0]] + [fault[1]])

    def rows(self, plan):
        return [] if plan is None else ["plan " + " ".join(str(hour) for hour in plan)]


class Some(Case):
    def test_the_same_by_lines_and_by_functions(self):
        rng = random.Random(6)
        answers = {}
        for book in some_books(90, 6, 4) + tight_books(60, 7) + [shop_book(), no_plan_book(3)] + [gaps_book(3)] * 8:
            worth = rng.choice(("span", "late"))
            if not counts(book, worth):
                continue
            desk, beside = Desk(book_text(book), worth), Beside(book_text(book), worth)
            for _ in range(60):
                line = some_line(rng, beside.shop)
                before = time.process_time()
                answer = desk.say(line)
                self.assertLess(time.process_time() - before, 2)
                self.assertEqual(answer, beside.say(line), line)
                answers.setdefault(line.split(" ")[0].strip(), set()).add(answer.split("\n")[0].split(" ")[0])
        self.assertEqual(set(answers), {line.split(" ")[0] for line in FULL})
        self.assertLessEqual({"best", "bound", "no", "too"}, answers["within"] | answers["best"])
        self.assertLessEqual({"yes", "no", "bad"}, answers["shows"])
        self.assertEqual(answers["hour"], {"done", "no"})

    def test_read_again(self):
        for book in [shop_book()] + some_books(60, 8):
            for worth in ("span", "late"):
                if counts(book, worth):
                    self.assertEqual(Desk(book_text(book), worth).say("book"), book_text(book))

    def test_time(self):
        for book in tight_books(40, 9):
            if counts(book, "span"):
                desk = Desk(book_text(book), "span")
                best = best_of(Shop(book, "span"))
                plan = "now" if best is None else "plan " + " ".join(str(begin) for begin in best)
                for line in ("best 2000", "within 5 2000", "within 9999 2000", plan, "hour 3", "best 2000", "still", "now", "book"):
                    before = time.process_time()
                    desk.say(line)
                    self.assertLess(time.process_time() - before, 0.5)

    def test_as_great_as_can_be(self):
        tasks = [task("t" + "abcdefghijklmnopqrstuvwxyz"[k % 26] * (1 + k // 26), 5, "", (("oil", 1),)) for k in range(30)]
        desk = Desk(book_text(book_of_tasks(tasks, (), (("oil", 4),))), "span")
        with within(60):
            for line in ("best 2000", "within 37 2000", "best 20", "still"):
                desk.say(line)


if __name__ == "__main__":
    unittest.main()
