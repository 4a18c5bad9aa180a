"""Which things are deeds of a SESSION by their form."""

from knotweb.errors import BadDeed, BadFormula, BadOrder
from knotweb.formulas import is_name, need_formula, need_order
from knotweb.kinds import is_number
from knotweb.tables import MOST_KNOTS

MOST_DEEDS = 8

# What stands behind each word.
SHAPES = {
    "bind": ("name", "formula"),
    "free": ("name",),
    "order": ("order",),
    "sift": (),
    "name": ("name",),
    "room": ("room",),
}


def is_of_kind(kind, thing):
    """Whether a thing of any kind can stand where a deed has this kind of thing."""
    if kind == "name":
        return is_name(thing)
    if kind == "room":
        return is_number(thing, 0, MOST_KNOTS)
    try:
        if kind == "order":
            need_order(thing)
        else:
            need_formula(thing)
    except (BadOrder, BadFormula):
        return False
    return True


def is_deed(thing):
    """Whether a thing of any kind is a deed by its form."""
    # The word is asked for its kind first: what can't be a key mustn't come to SHAPES.
    if not isinstance(thing, tuple) or len(thing) == 0 or not isinstance(thing[0], str):
        return False
    shape = SHAPES.get(thing[0])
    if shape is None or len(thing) != 1 + len(shape):
        return False
    return all([is_of_kind(kind, part) for kind, part in zip(shape, thing[1:])])


def need_deeds(thing):
    """Refuses what is no tuple of one deed to eight by their form."""
    if not isinstance(thing, tuple) or not 1 <= len(thing) <= MOST_DEEDS:
        raise BadDeed(())
    for number, deed in enumerate(thing):
        if not is_deed(deed):
            raise BadDeed((number,))
