"""LEAST ORDERS of FORMULAS, and BOUNDS that a small looker reads."""

from knotweb.errors import BadPaper, BadQuestion
from knotweb.hanging import function_on
from knotweb.kinds import is_name_of, is_row_of
from knotweb.widths import Widths

MOST_LEAST_NAMES = 8


def widths_of(formula):
    """The Widths of a FORMULA that HANGS on few enough NAMES."""
    names, truths = function_on(formula, MOST_LEAST_NAMES)
    return Widths(names, truths)


def least_order(formula):
    """The LEAST ORDER of a FORMULA, and how many KNOTS there are by it."""
    return widths_of(formula).least_order()


def width_of(formula, name, beneath):
    """The WIDTH of a NAME above a SET of others."""
    widths = widths_of(formula)
    if not is_name_of(widths.names, name):
        raise BadQuestion("no name on which the formula hangs")
    if not is_row_of(widths.names, beneath) or name in beneath:
        raise BadQuestion("no row of other names on which the formula hangs")
    return widths.width(name, beneath)


def bounds_of(formula):
    """The BOUNDS of a FORMULA."""
    return tuple(list(widths_of(formula).bounds().items()))


def is_bound(thing, names, fewest):
    """Whether a thing of any kind is just this pair of a ROW and a number, of just these kinds."""
    if type(thing) is not tuple or len(thing) != 2:
        return False
    own, number = thing
    if type(own) is not tuple or type(number) is not int:
        return False
    if not all([type(name) is str for name in own]):
        return False
    return own == names and number == fewest


def need_bounds(formula, thing):
    """The thing itself, if it is the BOUNDS of a FORMULA."""
    bounds = bounds_of(formula)
    if not isinstance(thing, tuple) or len(thing) != len(bounds):
        raise BadPaper(())
    for number, (names, fewest) in enumerate(bounds):
        if not is_bound(thing[number], names, fewest):
            raise BadPaper((number,))
    return thing
