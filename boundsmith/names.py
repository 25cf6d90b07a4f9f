"""Whole numbers, names, and numbers as texts write them."""

LETTERS = "abcdefghijklmnopqrstuvwxyz"
FIGURES = "0123456789"

MOST_LETTERS = 8
MOST_FIGURES = 7


def is_whole(thing):
    """Whether it is a whole number; True and False are none."""
    return isinstance(thing, int) and not isinstance(thing, bool)


def is_among(thing, least, most):
    """Whether it is a whole number from least to most."""
    return is_whole(thing) and is_whole(least) and is_whole(most) and least <= thing <= most


def is_name(thing):
    """Whether it is a text of 1 to 8 small letters."""
    return isinstance(thing, str) and 1 <= len(thing) <= MOST_LETTERS and all([sign in LETTERS for sign in thing])


def number_of(word):
    """The number that a text writes by figures; None of what writes none."""
    if not isinstance(word, str) or not 1 <= len(word) <= MOST_FIGURES:
        return None
    if not all([sign in FIGURES for sign in word]):
        return None
    if word.startswith("0") and word != "0":
        return None
    return int(word)
