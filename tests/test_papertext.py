"""Papers as texts (point 62; the interface's papertext.py)."""

import copy
import random
import unittest

from boundsmith.papertext import paper_of, paper_text
from tests.samples import error_of, things, within

TEXTS = (
    ("way 0 3", ("way", (0, 3))),
    ("way 0", ("way", (0,))),
    ("crowd 2 0 1", ("crowd", (2, 0, 1))),
    ("ring 0 1", ("ring", (0, 1))),
    ("fixed 4 29", ("fixed", (4, 29))),
    ("stretch saw 0 11", ("stretch", "saw", 0, 11)),
    ("stretch oil -5 0", ("stretch", "oil", -5, 0)),
    ("stretch oil -9999999 -5", ("stretch", "oil", -9999999, -5)),
    ("stretch oil 0 9999999", ("stretch", "oil", 0, 9999999)),
    ("stretch / 0 1", ("stretch", "/", 0, 1)),
    ("stretch stretch 1 2", ("stretch", "stretch", 1, 2)),
    ("stretch 3 1 2", ("stretch", "3", 1, 2)),
    ("stretch Saw-9:x~! 1 2", ("stretch", "Saw-9:x~!", 1, 2)),
    ("way 9999999 0 0", ("way", (9999999, 0, 0))),
    ("cases 0 1\nway 0 1\nway 1 0", ("cases", (0, 1), (("way", (0, 1)), ("way", (1, 0))))),
    ("cases 5 5\nring 0 1\nstretch a 0 1", ("cases", (5, 5), (("ring", (0, 1)), ("stretch", "a", 0, 1)))),
    ("cases 7", ("cases", (7,), ())),
    ("way", ("way", ())),
    ("cases", ("cases", (), ())),
)


def nested(many, tasks=(0, 1), leaf=("way", (0,)), first=True):
    """So many papers within each other, and the rows of their text."""
    paper, rows = leaf, ["way 0"]
    for _ in range(many - 1):
        if first:
            paper, rows = ("cases", tasks, (paper, leaf)), ["cases 0 1"] + rows + ["way 0"]
        else:
            paper, rows = ("cases", tasks, (leaf, paper)), ["cases 0 1", "way 0"] + rows
    return paper, rows


def some_paper(rng, more):
    kind = rng.choice(("way", "crowd", "ring", "fixed", "stretch") + ("cases",) * (3 * (more > 0)))
    tasks = tuple(rng.randint(0, rng.choice([3, 9999999])) for _ in range(rng.randint(0, 3)))
    if kind == "stretch":
        first, behind = sorted(rng.sample(range(-9999999, 10000000), 2))
        return ("stretch", rng.choice(("saw", "a/b", "-", "x" * 50)), first, behind)
    if kind != "cases":
        return (kind, tasks)
    return ("cases", tasks, tuple(some_paper(rng, more - 1) for _ in range(len(tasks) * (len(tasks) - 1))))


def rows_by_hand(paper):
    """The rows of a paper's text, by the words of the document."""
    if paper[0] == "stretch":
        return ["stretch " + paper[1] + " " + str(paper[2]) + " " + str(paper[3])]
    rows = [" ".join([paper[0]] + [str(k) for k in paper[1]])]
    for part in paper[2:]:
        for inner in part:
            rows.extend(rows_by_hand(inner))
    return rows


class Case(unittest.TestCase):
    def bad(self, line, text):
        error = error_of(paper_of, text)
        self.assertEqual(type(error).__name__, "BadText", str(text)[:80])
        self.assertEqual(error.line, line, str(text)[:80])
        self.assertIs(type(error.line), int)


class Written(Case):
    def test_each_kind_written_and_read_again(self):
        for text, paper in TEXTS:
            self.assertEqual(paper_text(paper), text)
            self.assertEqual(paper_of(text), paper)

    def test_kinds(self):
        paper = paper_of("cases 0 1\nway 0\nstretch saw -1 2")
        self.assertEqual([type(part) for part in (paper,) + paper], [tuple, str, tuple, tuple])
        self.assertEqual([type(part) for part in paper[2][1]], [str, str, int, int])
        self.assertIs(type(paper_text(paper)), str)

    def test_cases_ahead_of_their_papers(self):
        inner = ("cases", (2, 3), (("way", (5,)), ("way", (6,))))
        other = ("cases", (0, 2), (("ring", (7, 8)), inner))
        paper = ("cases", (0, 1), (other, ("fixed", (9,))))
        text = "cases 0 1\ncases 0 2\nring 7 8\ncases 2 3\nway 5\nway 6\nfixed 9"
        self.assertEqual(paper_text(paper), text)
        self.assertEqual(paper_of(text), paper)
        text = "cases 0 1\nfixed 9\ncases 0 2\nring 7 8\ncases 2 3\nway 5\nway 6"
        self.assertEqual(paper_text(("cases", (0, 1), (("fixed", (9,)), other))), text)
        self.assertEqual(paper_of(text), ("cases", (0, 1), (("fixed", (9,)), other)))

    def test_as_many_papers_as_pairs(self):
        for many in range(6):
            tasks = tuple(range(many))
            papers = tuple(("way", (k,)) for k in range(many * (many - 1)))
            text = paper_text(("cases", tasks, papers))
            self.assertEqual(text.count("\n"), len(papers))
            self.assertEqual(paper_of(text), ("cases", tasks, papers))
            self.bad(len(papers) + 2, text + "\nway 0")
            if papers:
                self.bad(len(papers) + 1, text[:text.rindex("\n")])

    def test_cases_without_papers_within_others(self):
        text = "cases 0 1\ncases 5\ncases\n"
        self.bad(4, text)
        self.assertEqual(paper_of(text[:-1]), ("cases", (0, 1), (("cases", (5,), ()), ("cases", (), ()))))

    def test_some_papers(self):
        rng = random.Random(1)
        for _ in range(500):
            paper = some_paper(rng, 3)
            before = copy.deepcopy(paper)
            text = paper_text(paper)
            self.assertEqual(text.split("\n"), rows_by_hand(paper))
            self.assertEqual(paper_of(text), paper)
            self.assertEqual((paper_text(paper), paper), (text, before))

    def test_asked_again_the_same_is_told(self):
        text = "cases 0 1\nway 0 1\nstretch saw -5 7"
        self.assertEqual(paper_of(text), paper_of(text))


class Numbers(Case):
    def test_seven_figures_and_eight(self):
        self.assertEqual(paper_of("way 9999999 1000000"), ("way", (9999999, 1000000)))
        for word in ("10000000", "12345678", "9" * 500):
            for row in ("way " + word, "way 0 " + word, "cases " + word, "stretch saw 0 " + word,
                        "stretch saw -" + word + " 0", "ring 0 1 " + word):
                self.bad(1, row)

    def test_a_nought_ahead(self):
        for row in ("way 00", "way 01", "crowd 1 007", "ring 0 00", "fixed 0 01", "cases 0 01", "stretch saw 00 5",
                    "stretch saw 0 05", "stretch saw -01 5", "stretch saw -0 5", "stretch saw -5 -0", "stretch saw -00 5"):
            self.bad(1, row)
        self.assertEqual(paper_of("way 0 10"), ("way", (0, 10)))

    def test_signs_ahead(self):
        for row in ("way -1", "way 0 -3", "way -0", "crowd -1", "cases 0 -1", "way +1", "stretch saw +0 5", "stretch saw --1 5",
                    "stretch saw 0 +5", "stretch saw - 5", "stretch saw 0 -", "stretch saw 0 5-"):
            self.bad(1, row)
        self.assertEqual(paper_of("stretch saw -7 -1"), ("stretch", "saw", -7, -1))

    def test_what_writes_no_number(self):
        for word in ("a", "1a", "0x1", "1_0", "1.0", ".", "1e3", "None", "True", "(0)", "0,", "\t1", "1\t"):
            for row in ("way " + word, "way 0 " + word + " 1", "cases " + word, "stretch saw " + word + " 9",
                        "stretch saw 0 " + word):
                self.bad(1, row)

    def test_hours_that_do_not_rise(self):
        for hours in ("0 0", "5 4", "1 -1", "-1 -2", "-5 -5", "9999999 9999999", "9999999 -9999999"):
            self.bad(1, "stretch saw " + hours)
        self.assertEqual(paper_of("stretch saw -9999999 9999999")[2:], (-9999999, 9999999))


class Rows(Case):
    def test_the_name(self):
        for row in ("stretch  0 5", "stretch 0 5", "stretch a b 0 5", "stretch  saw 0 5", "stretch saw  0 5",
                    "stretch saw 0 5 ", " stretch saw 0 5", "stretch saw 0  5"):
            self.bad(1, row)

    def test_other_blanks_and_words(self):
        for row in ("", " ", "way ", "way  0", "way 0 ", " way 0", "way 0  1", "Way 0", "ways 0", "wa 0", "0 way", "0", "-",
                    "way\t0", "stretch", "stretch saw", "stretch saw 0", "stretch saw 0 5 6", "way,0", "way:0", "cases ",
                    "none", "form", "('way', (0,))", "machine saw", "way 0 / way 1", "way 0\r"):
            self.bad(1, row)

    def test_the_empty_text(self):
        self.bad(1, "")
        self.bad(1, "\n")
        self.bad(1, "\nway 0")

    def test_what_is_no_text(self):
        for thing in things():
            if not isinstance(thing, str):
                self.bad(0, thing)
        for thing in (("way", (0,)), ["way 0"], ("way 0",), {"way 0": 0}, b"way 0"):
            self.bad(0, thing)

    def test_texts_of_any_kind(self):
        for thing in things():
            if isinstance(thing, str):
                self.bad(1, thing)

    def test_rows_left_out(self):
        self.bad(2, "cases 0 1")
        self.bad(3, "cases 0 1\nway 0")
        self.bad(4, "cases 0 1\ncases 0 1\nway 0")
        self.bad(5, "cases 0 1\nway 0\ncases 0 1\nway 0")
        self.bad(7, "cases 0 1 2\n" + "\n".join(["way 0"] * 5))
        self.bad(7, "cases 0 1 2\n" + "\n".join(["way 0"] * 5) + "\n\nway 0")

    def test_rows_told_twice_and_put_in(self):
        self.bad(2, "way 0\nway 0")
        self.bad(2, "way 0\n")
        self.bad(2, "stretch saw 0 5\nno row\nno row")
        self.bad(4, "cases 0 1\nway 0\nway 1\nway 1")
        self.bad(4, "cases 0 1\nway 0\nway 1\n")
        self.bad(3, "cases 0 1\nway 0\n\nway 1")
        self.bad(6, "cases 0 1\ncases 0 1\nway 0\nway 1\nway 2\ncases 0 1")

    def test_the_first_row_that_cannot_stand(self):
        rows = ["cases 0 1", "cases 1 2", "way 0", "crowd 1", "cases 0 2", "ring 0 1", "stretch saw 0 5"]
        self.assertIsNone(error_of(paper_of, "\n".join(rows)))
        for place in range(len(rows)):
            for row in ("no", "", "way -1", "stretch saw 5 5", rows[place] + " ", rows[place] + " x"):
                bad = rows[:place] + [row] + rows[place + 1:]
                self.bad(place + 1, "\n".join(bad))
                self.bad(place + 1, "\n".join(bad + ["no"]))
                self.bad(place + 1, "\n".join(bad[:place + 1]))

    def test_cut_anywhere(self):
        rng = random.Random(2)
        for _ in range(100):
            rows = paper_text(some_paper(rng, 3)).split("\n")
            for many in range(1, len(rows)):
                self.bad(many + 1, "\n".join(rows[:many]))
            for place in range(len(rows)):
                self.bad(place + 1, "\n".join(rows[:place] + ["way x"] + rows[place:]))
            self.bad(len(rows) + 1, "\n".join(rows + ["way 0"]))


class Great(Case):
    def test_within_each_other(self):
        for many in (2, 59, 60):
            for first in (True, False):
                paper, rows = nested(many, first=first)
                self.assertEqual(paper_text(paper), "\n".join(rows))
                self.assertTrue(paper_of("\n".join(rows)) == paper)
        for many in (61, 62, 70, 120):
            for first, line in ((True, 61), (False, 120)):
                paper, rows = nested(many, first=first)
                self.assertEqual(paper_text(paper), "\n".join(rows))
                self.bad(line, "\n".join(rows))

    def test_the_one_too_deep_of_any_kind(self):
        for row in ("way 0", "ring 0 1", "crowd", "fixed 3", "stretch saw 0 5", "cases 0 1", "cases 0", "cases"):
            self.bad(61, "\n".join(["cases 0 1"] * 60 + [row]))
            self.bad(61, "\n".join(["cases 0 1"] * 60 + [row] + ["way 0"] * 200))
            self.assertNotEqual(error_of(paper_of, "\n".join(["cases 0 1"] * 59 + [row])).line, 60)
        self.bad(61, "\n".join(["cases 0 1"] * 60))
        self.bad(60, "\n".join(["cases 0 1"] * 59))

    def test_just_as_deep_again_behind_others(self):
        deep = ["cases 0 1"] * 58 + ["way 0"] * 59
        text = "\n".join(["cases 0 1"] + deep + deep)
        self.assertEqual(paper_text(paper_of(text)), text)
        rows = ["cases 0 1"] + deep + ["cases 0 1"] * 59
        self.bad(len(rows) + 1, "\n".join(rows))
        self.bad(len(rows) + 1, "\n".join(rows + ["way 0"]))

    def test_a_bad_row_beside_the_one_too_deep(self):
        for place in (0, 3, 59, 60, 61, 70):
            rows = ["cases 0 1"] * 60 + ["way 0"] * 61
            rows[place] = "way 00"
            self.bad(min(place, 60) + 1, "\n".join(rows))

    def test_as_deep_as_a_text_can_tell(self):
        with within(20):
            for first, line in ((True, 61), (False, 120)):
                paper, rows = nested(1100, first=first)
                text = "\n".join(rows)
                self.assertLess(len(text), 20000)
                self.assertEqual(paper_text(paper), text)
                self.bad(line, text)

    def test_as_wide_as_can_be(self):
        tasks = tuple(range(45))
        papers = tuple(("way", (k,)) for k in range(45 * 44))
        with within(20):
            for _ in range(20):
                text = paper_text(("cases", tasks, papers))
                self.assertEqual(paper_of(text), ("cases", tasks, papers))

    def test_two_thousand_rows_and_one_more(self):
        # Each cases row has an even number of papers: so whole papers have 1999 rows, or 2001.
        wide = ["cases " + " ".join(str(k) for k in range(45))] + ["way 0"] * 1980
        inner = ["cases 0 1 2 3"] + ["way 0"] * 12
        rows = ["cases 0 1"] + wide + inner
        self.assertEqual(len(rows), 1995)
        self.assertEqual(paper_text(paper_of("\n".join(rows))), "\n".join(rows))
        whole = rows[:-1] + ["cases 0 1", "way 0", "cases 0 1", "way 0", "way 0"]
        self.assertEqual(len(whole), 1999)
        self.assertEqual(paper_text(paper_of("\n".join(whole))), "\n".join(whole))
        self.bad(2000, "\n".join(whole + ["way 0"]))
        longer = whole[:-1] + ["cases 0 1", "way 0", "way 0"]
        self.assertEqual(len(longer), 2001)
        self.bad(2001, "\n".join(longer))
        self.bad(2001, "\n".join(longer[:2000]))
        self.bad(2000, "\n".join(longer[:1999]))
        self.bad(2001, "\n".join(longer + ["way 0"] * 50))

    def test_a_bad_row_beside_the_one_too_many(self):
        for place in (1, 1000, 1999, 2000, 2001, 2050):
            rows = ["cases " + " ".join(str(k) for k in range(46))] + ["way 0"] * 2070
            rows[place] = "way 00"
            self.bad(min(place, 2000) + 1, "\n".join(rows))

    def test_far_more_rows_than_papers_may_have(self):
        tasks = tuple(range(300))
        papers = tuple([("way", (0,)), ("stretch", "saw", -5, 5)] * (150 * 299))
        with within(20):
            text = paper_text(("cases", tasks, papers))
            self.assertEqual(len(text.split("\n")), 89701)
            self.bad(2001, text)

    def test_far_more_papers_wanted_than_rows_told(self):
        with within(20):
            row = "cases" + " 0" * 9000
            self.bad(2, row)
            self.bad(4, row + "\nway 0\nway 1")
            self.bad(3, row + "\nway 0\nno")


if __name__ == "__main__":
    unittest.main()
