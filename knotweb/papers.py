"""PAPERS that a small looker reads: why there are so many KNOTS, why two FORMULAS aren't the SAME."""

from knotweb.errors import BadPaper
from knotweb.formulas import is_yes, need_formula
from knotweb.kinds import is_number, is_row_of
from knotweb.knots import Tabling, half_widths
from knotweb.tables import MOST_KNOTS, function_by
from knotweb.truths import in_row_order, weights_of


def part_at(truths, names, many, row):
    """What truths by some NAMES come to where the first so many are as in a ROW; others in it don't count."""
    weights = weights_of(names[:many])
    number = sum([weights[name] for name in row if name in weights])
    width = 1 << (len(names) - many)
    return truths >> number * width & ((1 << width) - 1)


def knot_in(part, level, many):
    """The KNOT of what is left at a level of so many NAMES, as (LEVEL, its straight part); None without."""
    widths = half_widths(many)
    for at in range(level, many):
        width = widths[at]
        high = part >> width
        if high != part & ((1 << width) - 1):
            whole = (1 << 2 * width) - 1
            return (at, part if high >> (width - 1) else part ^ whole)
        part = high
    return None


def paper_of(formula, order):
    """The PAPER that a FORMULA has as many KNOTS by an ORDER as it has."""
    names, truths = function_by(formula, order)
    many = len(names)
    shown = {}
    for level in range(many):
        # NAMES that the FORMULA hasn't are in no first ROW, so its own are all that's gone through.
        least = order.index(names[level - 1]) + 1 if level > 0 else 0
        for row in in_row_order(sorted(names[:level])):
            knot = knot_in(part_at(truths, names, level, row), level, many)
            if knot is not None and knot not in shown:
                shown[knot] = (least, row)
    return tuple([shown[knot] for knot in Tabling(names, truths).numbers])


def is_paper_pair(order, thing):
    """Whether a thing of any kind is a pair (K, ROW), ROW of some of the first K NAMES of an ORDER."""
    if not isinstance(thing, tuple) or len(thing) != 2 or not is_number(thing[0], 0, len(order)):
        return False
    return is_row_of(order[:thing[0]], thing[1])


def need_paper(formula, order, thing):
    """The thing itself, if it is a PAPER that a FORMULA has as many KNOTS by an ORDER as it has pairs."""
    names, truths = function_by(formula, order)
    if not isinstance(thing, tuple) or len(thing) > MOST_KNOTS:
        raise BadPaper(())
    seen = set()
    for at, pair in enumerate(thing):
        if not is_paper_pair(order, pair):
            raise BadPaper((at,))
        first, row = pair
        level = len([name for name in order[:first] if name in names])
        knot = knot_in(part_at(truths, names, level, row), level, len(names))
        if knot is None or knot in seen:
            raise BadPaper((at,))
        seen.add(knot)
    return thing


def is_apart(formula, other, row):
    """Whether just one of two FORMULAS is yes at a ROW."""
    need_formula(formula)
    need_formula(other)
    return is_yes(formula, row) != is_yes(other, row)
