"""A desk: a shop that is asked and told by lines."""

from boundsmith.booktext import book_of, book_text
from boundsmith.deedlines import DEED_LINES, need_words, number_by
from boundsmith.errors import BadDeed, BadLine, BadMost, BadPaper, BadText, NoDeed, NoPlan
from boundsmith.keeping import Papers
from boundsmith.papers import fault_in
from boundsmith.papertext import hour_of, paper_of, paper_text
from boundsmith.smaller import smaller
from boundsmith.underway import Shop
from boundsmith.within import InTime, Never, in_hours

BETWEEN = " / "


def words_of(line):
    """The words of a line."""
    if not isinstance(line, str) or "\n" in line:
        raise BadLine("no line")
    words = line.split(" ")
    if "" in words:
        raise BadLine("a word without a sign")
    return words


def signed_by(word):
    """The number that a word writes, perhaps with - ahead."""
    number = hour_of(word)
    if number is None:
        raise BadLine("a word that should write a number")
    return number


def paper_by(words):
    """The paper that the words behind a bound tell."""
    return paper_of(" ".join(words).replace(BETWEEN, "\n"))


def plan_row(plan):
    """The row of a plan."""
    return " ".join(["plan"] + [str(hour) for hour in plan])


def shown_rows(head, paper):
    """The rows of a paper behind a row that tells what it shows."""
    return "\n".join([head, paper_text(paper)])


def say_undo(desk, words):
    """Undo the last deed."""
    need_words(words, 0)
    desk.shop.undo()
    return "done"


def say_redo(desk, words):
    """Do again what was undone last."""
    need_words(words, 0)
    desk.shop.redo()
    return "done"


def say_now(desk, words):
    """The hour, and the plan that is followed."""
    need_words(words, 0)
    rows = [f"hour {desk.shop.the_hour()}"]
    plan = desk.shop.following()
    if plan is not None:
        rows.append(plan_row(plan))
    return "\n".join(rows)


def say_book(desk, words):
    """The text of the book for the rest."""
    need_words(words, 0)
    return book_text(desk.shop.its_book())


def say_best(desk, words):
    """The best plan that is met, and its bound with the paper, which is kept."""
    need_words(words, 1)
    most = number_by(words[0])
    book = desk.shop.its_book()
    try:
        best = desk.shop.planned(most)
    except NoPlan as never:
        desk.papers.put(book, desk.worth, None, never.paper)
        return shown_rows("never", never.paper)
    desk.papers.put(book, desk.worth, best.bound, best.paper)
    if best.plan is None:
        return shown_rows(f"bound {best.bound}", best.paper)
    return shown_rows(f"best {best.value} bound {best.bound}\n{plan_row(best.plan)}", best.paper)


def say_within(desk, words):
    """A plan of less than a goal, or what shows that there is none, or a bound."""
    need_words(words, 2)
    goal = signed_by(words[0])
    told = in_hours(desk.shop.its_book(), desk.worth, goal, number_by(words[1]))
    if isinstance(told, InTime):
        return f"best {told.value}\n{plan_row(told.plan)}"
    head = "never" if isinstance(told, Never) else f"bound {told.bound}"
    return shown_rows(head, told.paper)


def need_paper_words(words):
    """Refuse a line without a word for a bound and one at least for a paper."""
    if len(words) < 2:
        raise BadLine("words too few")


def say_shows(desk, words):
    """Whether a paper shows a bound, or its first fault."""
    need_paper_words(words)
    bound = signed_by(words[0])
    fault = fault_in(desk.shop.its_book(), desk.worth, bound, paper_by(words[1:]))
    if fault is None:
        return "yes"
    path, word = fault
    return " ".join(["no"] + [str(place) for place in path] + [word])


def say_smaller(desk, words):
    """A smaller paper that shows a bound."""
    need_paper_words(words)
    bound = signed_by(words[0])
    return paper_text(smaller(desk.shop.its_book(), desk.worth, bound, paper_by(words[1:])))


def say_still(desk, words):
    """The papers that still show their bounds."""
    need_words(words, 0)
    told = ["papers"]
    for number in desk.papers.still(desk.shop.its_book()):
        _, bound, _ = desk.papers.told_paper(number)
        told.append(f"{number}:{'never' if bound is None else bound}")
    return " ".join(told)


SAYINGS = {
    "undo": say_undo,
    "redo": say_redo,
    "now": say_now,
    "book": say_book,
    "best": say_best,
    "within": say_within,
    "shows": say_shows,
    "smaller": say_smaller,
    "still": say_still,
}


def answer_of(desk, line):
    """What a desk answers to a line."""
    word, *words = words_of(line)
    if word in DEED_LINES:
        read = DEED_LINES[word]
        desk.shop.do(read(words))
        return "done"
    if word not in SAYINGS:
        raise BadLine("no line of that word")
    saying = SAYINGS[word]
    return saying(desk, words)


class Desk:
    """A desk with a shop of a text's book and a worth, and with papers that are kept."""

    def __init__(self, text, worth):
        self.shop = Shop(book_of(text), worth)
        self.worth = worth
        self.papers = Papers()

    def say(self, line):
        """The answer to a line."""
        try:
            return answer_of(self, line)
        except BadLine:
            return "no line"
        except (BadDeed, NoDeed):
            return "no deed"
        except BadMost:
            return "too many cases"
        except BadText as bad:
            return f"bad row {bad.line}"
        except BadPaper:
            return "no paper"
