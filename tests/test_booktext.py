"""Books as texts (point 5; the interface's booktext.py)."""

import re
import unittest

from boundsmith.books import need_book
from boundsmith.booktext import book_of, book_text
from boundsmith.errors import BadBook, BadText
from tests.samples import NAMES, book_of_tasks, deep, error_of, plain_book, put, shop_book, some_books, task

TEXT = "\n".join([
    "machine saw",
    "machine press",
    "good oil 3",
    "good crew 2",
    "task cut 4 saw 0 9 5 oil:2",
    "task trim 2 saw 1 - 0 crew:1 oil:1",
    "task bend 3 press 2 20 7",
    "task rest 1 - 0 0 1 crew:2",
    "wait cut bend 3",
    "wait trim rest 0",
    "fixed trim 6",
])

NAME = "[a-z]{1,8}"
NUMBER = "(?:0|[1-9][0-9]{0,6})"
SORTS = (
    re.compile(f"machine {NAME}"),
    re.compile(f"good {NAME} {NUMBER}"),
    re.compile(f"task ({NAME}) {NUMBER} (?:-|{NAME}) {NUMBER} (?:-|{NUMBER}) {NUMBER}(?: {NAME}:{NUMBER})*"),
    re.compile(f"wait ({NAME}) ({NAME}) {NUMBER}"),
    re.compile(f"fixed ({NAME}) {NUMBER}"),
)


def bad_row(text):
    """The number of the first bad row of a text, None without one, by the words of the document."""
    latest = 0
    names = []
    for at, row in enumerate(text.split("\n")):
        sorts = [sort for sort in range(5) if SORTS[sort].fullmatch(row)]
        if not sorts or sorts[0] < latest:
            return at + 1
        latest = sorts[0]
        told = SORTS[latest].fullmatch(row).groups()
        if latest == 2:
            names.extend(told)
        elif any(name not in names for name in told):
            return at + 1
    return None


def outcome(text):
    """What a text tells: ("book", BOOK), ("row", LINE) or ("what", WORD)."""
    try:
        return "book", book_of(text)
    except BadText as error:
        return "row", error.line
    except BadBook as error:
        return "what", error.what


class Written(unittest.TestCase):
    def test_each_part_has_its_row(self):
        self.assertEqual(book_text(shop_book()), TEXT)

    def test_the_least_book(self):
        self.assertEqual(book_text(book_of_tasks([task("a", 1, "", (), 0, None, 0)])), "task a 1 - 0 - 0")

    def test_the_greatest_numbers(self):
        book = book_of_tasks([task("abcdefgh", 1000, "", (), 1000000, 1000000, 1000), task("b")],
                             waits=[(0, 1, 1000)], fixed=[(0, 1000000)])
        self.assertEqual(book_text(book), "\n".join([
            "task abcdefgh 1000 - 1000000 1000000 1000", "task b 1 - 0 - 1", "wait abcdefgh b 1000",
            "fixed abcdefgh 1000000"]))

    def test_asked_again_the_same_is_told(self):
        self.assertEqual(book_text(shop_book()), book_text(shop_book()))


class ReadAgain(unittest.TestCase):
    def test_the_shop(self):
        self.assertEqual(book_of(TEXT), shop_book())

    def test_any_book_is_the_very_book(self):
        for book in some_books(300, 5):
            told = book_of(book_text(book))
            self.assertEqual(told, book)
            self.assertEqual(repr(told), repr(book))

    def test_as_many_as_there_may_be(self):
        tasks = [task(NAMES[k], 1000, "tmachine", (("oil", 99),), 1000000, 0, 1000) for k in range(30)]
        machines = ["a", "b", "c", "d", "e", "tmachine"]
        goods = [("oil", 99), ("a", 1), ("b", 2), ("c", 3)]
        book = book_of_tasks(tasks, machines, goods, [(0, 1, k) for k in range(60)], [(k, 1000000) for k in range(30)])
        self.assertEqual(book_of(book_text(book)), book)

    def test_names_that_are_the_words_of_rows(self):
        words = ("machine", "good", "task", "wait", "fixed")
        tasks = [task(word, 2, word, ((word, 1),) if word != "fixed" else ()) for word in words]
        book = book_of_tasks(tasks, words, [(word, 2) for word in words[:4]],
                             [(0, 1, 0), (3, 4, 2), (2, 0, 0)], [(4, 7), (2, 3)])
        text = book_text(book)
        self.assertIn("machine machine", text)
        self.assertIn("task task 2 task 0 - 1 task:1", text)
        self.assertIn("wait wait fixed 2", text)
        self.assertEqual(book_of(text), book)

    def test_needs_and_waits_keep_their_order(self):
        book = put(shop_book(), (2, 1, 3), (("oil", 1), ("crew", 1)))
        book = put(book, (3,), ((1, 3, 0), (0, 2, 3), (1, 3, 0)))
        self.assertEqual(book_of(book_text(book)), book)


class BadRows(unittest.TestCase):
    def check_row(self, at, row, line=None):
        """A row in the place of another one, from 1 on."""
        rows = TEXT.split("\n")
        rows[at - 1] = row
        with self.subTest(row=row):
            self.assertEqual(outcome("\n".join(rows)), ("row", at if line is None else line))

    def test_what_is_no_text(self):
        kinds = [None, True, False, 0, 7, 10 ** 999, [], [TEXT], (), (TEXT,), {}, {0: TEXT}, shop_book()]
        for thing in kinds + [deep(kind, 150) for kind in ("list", "tuple", "dict")]:
            self.assertEqual(outcome(thing), ("row", 0), str(thing)[:40])

    def test_the_empty_text_is_one_row(self):
        self.assertEqual(outcome(""), ("row", 1))

    def test_empty_rows(self):
        self.assertEqual(outcome("\n"), ("row", 1))
        self.assertEqual(outcome(TEXT + "\n"), ("row", 12))
        self.assertEqual(outcome("\n" + TEXT), ("row", 1))
        self.assertEqual(outcome(TEXT.replace("\n", "\n\n", 1)), ("row", 2))

    def test_blanks_too_many_or_too_few(self):
        rows = TEXT.split("\n")
        for at, row in enumerate(rows):
            self.check_row(at + 1, " " + row)
            self.check_row(at + 1, row + " ")
            self.check_row(at + 1, row.replace(" ", "  ", 1))
            self.check_row(at + 1, "  ".join(row.rsplit(" ", 1)))
            self.check_row(at + 1, row.replace(" ", "", 1))

    def test_words_too_many_or_too_few(self):
        for at, row in enumerate(TEXT.split("\n")):
            self.check_row(at + 1, row.split(" ")[0])
            self.check_row(at + 1, row + " 1")
            self.check_row(at + 1, row + " a")
            if at not in (4, 5, 7):
                self.check_row(at + 1, row.rsplit(" ", 1)[0])
        self.check_row(7, "task bend 3 press 2 20")
        self.check_row(7, "task bend 3 press 2 20 -")
        self.check_row(5, "task cut 4 saw 0 9 oil:2")

    def test_bad_names(self):
        for name in ("Saw", "abcdefghi", "saw1", "s-w", "-", "0"):
            self.check_row(2, f"machine {name}")
            self.check_row(3, f"good {name} 3")
            self.check_row(5, f"task {name} 4 saw 0 9 5")
            self.check_row(5, f"task cut 4 saw 0 9 5 {name}:2")
            self.check_row(9, f"wait {name} bend 3")
            self.check_row(9, f"wait cut {name} 3")
            self.check_row(11, f"fixed {name} 6")
        for name in ("Saw", "abcdefghi", "saw1", "--", "0"):
            self.check_row(5, f"task cut 4 {name} 0 9 5")

    def test_bad_numbers(self):
        for number in ("00", "01", "10000000", "-1", "+1", "a", "1a", "1:1", "0x1", "1_0"):
            self.check_row(3, f"good oil {number}")
            self.check_row(5, f"task cut {number} saw 0 9 5")
            self.check_row(5, f"task cut 4 saw {number} 9 5")
            self.check_row(5, f"task cut 4 saw 0 {number} 5")
            self.check_row(5, f"task cut 4 saw 0 9 {number}")
            self.check_row(5, f"task cut 4 saw 0 9 5 oil:{number}")
            self.check_row(9, f"wait cut bend {number}")
            self.check_row(11, f"fixed trim {number}")
        for row in ("good oil -", "task cut - saw 0 9 5", "task cut 4 saw - 9 5", "task cut 4 saw 0 9 -"):
            self.check_row({"good": 3}.get(row[:4], 5), row)
        self.check_row(9, "wait cut bend -")
        self.check_row(11, "fixed trim -")

    def test_bad_needs(self):
        for need in ("oil", "oil:", ":2", "oil:2:", "oil:2:1", "oil::2", ":", "oil:-", "-:2", "oil;2", "oil=2"):
            self.check_row(5, f"task cut 4 saw 0 9 5 {need}")
            self.check_row(5, f"task cut 4 saw 0 9 5 crew:1 {need}")
            self.check_row(5, f"task cut 4 saw 0 9 5 {need} crew:1")

    def test_other_first_words(self):
        for row in ("Machine saw", "machines saw", "mach saw", "- saw", "saw", "goods oil 3", "Task a 1 - 0 - 1"):
            self.check_row(2, row)

    def test_rows_out_of_their_order(self):
        rows = TEXT.split("\n")
        self.assertEqual(outcome("\n".join(rows[2:4] + rows[:2] + rows[4:])), ("row", 3))
        self.assertEqual(outcome("\n".join(rows[:2] + rows[4:8] + rows[2:4] + rows[8:])), ("row", 7))
        self.assertEqual(outcome("\n".join(rows[:8] + rows[10:] + rows[8:10])), ("row", 10))
        self.assertEqual(outcome("\n".join(rows[:10] + rows[7:8] + rows[10:])), ("row", 11))
        self.assertEqual(outcome("\n".join(rows + rows[:1])), ("row", 12))

    def test_a_wait_ahead_of_its_tasks(self):
        self.assertEqual(outcome("task a 1 - 0 - 1\nwait a b 0\ntask b 1 - 0 - 1"), ("row", 2))
        self.assertEqual(outcome("wait a b 0\ntask a 1 - 0 - 1\ntask b 1 - 0 - 1"), ("row", 1))
        self.assertEqual(outcome("fixed a 0\ntask a 1 - 0 - 1"), ("row", 1))

    def test_names_of_tasks_that_no_row_ahead_tells(self):
        self.check_row(9, "wait cat bend 3")
        self.check_row(9, "wait cut band 3")
        self.check_row(9, "wait saw oil 3")
        self.check_row(11, "fixed saw 6")
        self.check_row(6, "task trap 2 saw 1 - 0", 10)
        self.assertEqual(outcome("task a 1 - 0 - 1\nfixed b 0"), ("row", 2))

    def test_of_two_wrong_rows_the_first_one_is_told(self):
        for first in range(11):
            for second in range(first + 1, 11):
                rows = TEXT.split("\n")
                rows[first] = rows[first].upper()
                rows[second] = rows[second] + " x"
                self.assertEqual(outcome("\n".join(rows)), ("row", first + 1))
        rows = TEXT.split("\n")
        rows[8] = "wait cut band 3"
        self.assertEqual(outcome("\n".join(rows + ["machine drill"])), ("row", 9))
        self.assertEqual(outcome("\n".join(rows[:8] + ["machine drill", "wait cut band 3"])), ("row", 9))
        self.assertEqual(outcome("\n".join(rows[:8] + ["fixed cut 1", "wait cut band 3", "x"])), ("row", 10))

    def test_a_bad_row_is_told_ahead_of_what_is_wrong_in_the_book(self):
        self.assertEqual(outcome("machine a\nmachine a\nx"), ("row", 3))
        self.assertEqual(outcome("task a 0 - 0 - 1\ntask a 0 - 0 - 1\nfixed a 01"), ("row", 3))

    def test_rows_bent_by_one_sign(self):
        for at in range(len(TEXT)):
            for sign in " -:0a1AZ~\n":
                for text in (TEXT[:at] + sign + TEXT[at + 1:], TEXT[:at] + sign + TEXT[at:], TEXT[:at] + TEXT[at + 1:]):
                    self.check_by_hand(text)

    def check_by_hand(self, text):
        """A text is refused by the row that is told by hand, or else read as what it writes, or refused as a book."""
        line = bad_row(text)
        told = outcome(text)
        if line is not None:
            self.assertEqual(told, ("row", line), text)
        elif told[0] == "book":
            self.assertEqual(book_text(told[1]), text)
            self.assertIsNone(need_book(told[1]))
        else:
            self.assertEqual(told[0], "what", text)


class ThenAsABook(unittest.TestCase):
    def test_rows_left_out_or_told_twice(self):
        rows = TEXT.split("\n")
        left = {1: "unknown", 2: "unknown", 3: "unknown", 4: "unknown", 5: 8, 6: 9, 7: 8, 8: 9}
        for at in range(1, 12):
            told = outcome("\n".join(rows[:at - 1] + rows[at:]))
            expected = left.get(at)
            if expected is None:
                self.assertEqual(told[0], "book")
            else:
                self.assertEqual(told, ("what" if isinstance(expected, str) else "row", expected))
        for at in range(1, 12):
            told = outcome("\n".join(rows[:at] + rows[at - 1:]))
            self.assertEqual(told if at not in (9, 10) else told[0], "book" if at in (9, 10) else ("what", "twice"))

    def test_no_tasks(self):
        self.assertEqual(outcome("machine saw"), ("what", "form"))
        self.assertEqual(outcome("machine saw\ngood oil 3"), ("what", "form"))

    def test_numbers_that_no_book_has(self):
        for row in ("task a 0 - 0 - 1", "task a 1001 - 0 - 1", "task a 1 - 1000001 - 1", "task a 1 - 0 9999999 1",
                    "task a 1 - 0 - 1001", "good oil 0\ntask a 1 - 0 - 1", "good oil 100\ntask a 1 - 0 - 1",
                    "task a 1 - 0 - 1\nfixed a 1000001", "task a 1 - 0 - 1\ntask b 1 - 0 - 1\nwait a b 1001",
                    "task a 1 - 0 - 1 oil:0"):
            self.assertEqual(outcome(row), ("what", "form"), row)

    def test_too_many_of_a_sort(self):
        tasks = "\n".join(f"task {name} 1 - 0 - 1" for name in NAMES[:31])
        self.assertEqual(outcome(tasks), ("what", "form"))
        self.assertEqual(outcome(tasks.rsplit("\n", 1)[0])[0], "book")
        machines = "\n".join(f"machine {name}" for name in NAMES[:7])
        self.assertEqual(outcome(machines + "\ntask a 1 - 0 - 1"), ("what", "form"))
        self.assertEqual(outcome(machines.rsplit("\n", 1)[0] + "\ntask a 1 - 0 - 1")[0], "book")

    def test_each_word(self):
        self.assertEqual(outcome(TEXT.replace("wait trim rest 0", "wait trim trim 0")), ("what", "form"))
        self.assertEqual(outcome(TEXT.replace("machine press", "machine saw")), ("what", "twice"))
        self.assertEqual(outcome(TEXT.replace("bend 3 press", "bend 3 drill")), ("what", "unknown"))
        self.assertEqual(outcome(TEXT.replace("oil:2", "oil:4")), ("what", "many"))
        self.assertEqual(outcome(TEXT.replace("fixed trim 6", "fixed trim 0")), ("what", "early"))
        self.assertEqual(outcome(TEXT.replace("wait trim rest 0", "wait bend cut 0")), ("what", "ring"))

    def test_of_two_tasks_of_one_name_the_first_one_is_meant(self):
        text = "task a 1 - 0 - 1\ntask a 2 - 0 - 1\n"
        self.assertEqual(outcome(text + "wait a a 0"), ("what", "form"))
        self.assertEqual(outcome(text + "fixed a 0"), ("what", "twice"))
        self.assertEqual(outcome(text + "task b 1 - 0 - 1\nwait b a 0"), ("what", "twice"))

    def test_refusals_are_of_their_kinds(self):
        self.assertIs(type(error_of(book_of, "")), BadText)
        self.assertIs(type(error_of(book_of, "machine a")), BadBook)

    def test_as_many_as_there_may_be_reads(self):
        book = plain_book(30, [(0, 1, k) for k in range(60)])
        self.assertEqual(book_of(book_text(book)), book)
        text = book_text(book) + "\nwait " + NAMES[0] + " " + NAMES[1] + " 1"
        self.assertEqual(outcome(text), ("what", "form"))

    def test_a_long_text(self):
        self.assertEqual(outcome("x" * 20000), ("row", 1))
        self.assertEqual(outcome("machine a\n" * 1999 + "machine a"), ("what", "form"))
        self.assertEqual(outcome("task a 1 - 0 - 1\n" * 1100 + "wait a b 0"), ("row", 1101))


if __name__ == "__main__":
    unittest.main()
