"""Of what kind things are that may be of any kind: numbers, truths, NAMES and ROWS of an ORDER."""

from knotweb.formulas import is_row


def is_number(thing, least, most):
    """Whether a thing of any kind is a number from least to most; truths are none."""
    return isinstance(thing, int) and not isinstance(thing, bool) and least <= thing <= most


def is_name_of(order, thing):
    """Whether a thing of any kind is a NAME of an ORDER."""
    return isinstance(thing, str) and thing in order


def is_row_of(order, thing):
    """Whether a thing of any kind is a ROW of NAMES of an ORDER."""
    if not is_row(thing):
        return False
    for name in thing:
        if name not in order:
            return False
    return True


def row_place(row):
    """What is the lesser of two ROWS, the earlier the ROW stands in their order."""
    return (len(row), row)


def wrong_row(order, rows):
    """The number of the first in a tuple that is no ROW of NAMES of an ORDER, or isn't behind the one ahead.

    None if there is none such.
    """
    for at, row in enumerate(rows):
        if not is_row_of(order, row):
            return at
        if at > 0 and row_place(row) <= row_place(rows[at - 1]):
            return at
    return None
