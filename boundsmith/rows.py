"""Rows that stand without a book: lists of 1 to 30 of one form."""

from boundsmith.errors import BadRows

MOST_ROWS = 30


def need_rows(thing, is_one):
    """Refuse what is no list of 1 to 30 rows, each of them such a one."""
    if not isinstance(thing, list) or not 1 <= len(thing) <= MOST_ROWS:
        raise BadRows("no list of 1 to 30 rows")
    if not all([is_one(row) for row in thing]):
        raise BadRows("not all of these are rows of the wanted form")
