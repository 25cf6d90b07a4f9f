"""Lines that tell deeds."""

from boundsmith.booktext import NONE_WORD, read_task
from boundsmith.errors import BadLine
from boundsmith.names import number_of


def need_words(words, many):
    """Refuse a line with other many words behind its first one."""
    if len(words) != many:
        raise BadLine("words too few or too many")


def number_by(word):
    """The number that a word writes; refused where it writes none."""
    number = number_of(word)
    if number is None:
        raise BadLine("a word that should write a number")
    return number


def numbers_by(words, many):
    """The numbers that so many words write."""
    need_words(words, many)
    return tuple([number_by(word) for word in words])


def plan_by_words(words):
    """The deed that the words of a plan line tell."""
    return ("plan", numbers_by(words, max(len(words), 1)))


def hour_by_words(words):
    """The deed that the words of an hour line tell."""
    return ("hour",) + numbers_by(words, 1)


def length_by_words(words):
    """The deed that the words of a length line tell."""
    return ("length",) + numbers_by(words, 2)


def task_by_words(words):
    """The deed that the words of a task line tell."""
    row = read_task(words)
    if row is None:
        raise BadLine("no words of a task")
    return ("task", row)


def gone_by_words(words):
    """The deed that the words of a gone line tell."""
    return ("gone",) + numbers_by(words, 1)


def wait_by_words(words):
    """The deed that the words of a wait line tell."""
    return ("wait",) + numbers_by(words, 3)


def due_by_words(words):
    """The deed that the words of a due line tell."""
    need_words(words, 2)
    return ("due", number_by(words[0]), None if words[1] == NONE_WORD else number_by(words[1]))


def closed_by_words(words):
    """The deed that the words of a closed line tell; what are no names is left to the deed."""
    need_words(words, 4)
    return ("closed", words[0], words[1]) + numbers_by(words[2:], 2)


DEED_LINES = {
    "plan": plan_by_words,
    "hour": hour_by_words,
    "length": length_by_words,
    "task": task_by_words,
    "gone": gone_by_words,
    "wait": wait_by_words,
    "due": due_by_words,
    "closed": closed_by_words,
}
