"""TABLES: a function as its KNOTS by an ORDER, for each function just one."""

from knotweb.errors import BadQuestion, BadTable, NoSuch
from knotweb.formulas import hangs_on, names_in, need_order
from knotweb.kinds import is_name_of, is_number, is_row_of
from knotweb.knots import Tabling, formula_from
from knotweb.links import is_pair_with, wrong_link
from knotweb.truths import Truths

MOST_KNOTS = 2000


def function_by(formula, order):
    """A FORMULA by an ORDER: those of its NAMES that the ORDER has, and its truths by these."""
    met = names_in(formula)
    need_order(order)
    for name in hangs_on(formula):
        if name not in order:
            raise NoSuch(name)
    names = [name for name in order if name in met]
    # It hangs on none of the others, so with these on top each part beneath tells the whole.
    others = [name for name in met if name not in order]
    truths = Truths(others + names).truths_of(formula)
    return names, truths & Truths(names).whole


def table_of(formula, order):
    """The TABLE of a FORMULA by an ORDER."""
    names, truths = function_by(formula, order)
    return Tabling(names, truths).table()


def is_edge(thing, many):
    """Whether a thing of any kind is an EDGE to one of so many KNOTS, or to yes."""
    if not isinstance(thing, tuple) or len(thing) != 2:
        return False
    return is_number(thing[0], -1, many - 1) and isinstance(thing[1], bool)


def is_knot(order, thing, many):
    """Whether a thing of any kind is a KNOT by its own form, one of so many."""
    if not isinstance(thing, tuple) or len(thing) != 3 or not is_name_of(order, thing[0]):
        return False
    high, low = thing[1:]
    if not is_edge(high, many) or not is_edge(low, many):
        return False
    return high != low and not high[1]


def need_table(order, thing):
    """The thing itself, if it is a TABLE by an ORDER."""
    need_order(order)
    if not is_pair_with(thing, MOST_KNOTS):
        raise BadTable(())
    edge, knots = thing
    if not is_edge(edge, len(knots)):
        raise BadTable(("edge",))
    for number, knot in enumerate(knots):
        if not is_knot(order, knot, len(knots)):
            raise BadTable((number,))
    links = [(high[0], low[0]) for _, high, low in knots]
    place = wrong_link(order, edge[0], knots, links)
    if place is not None:
        raise BadTable(place)
    return thing


def at_row(order, table, row):
    """Whether a TABLE's function is yes at a ROW of NAMES of the ORDER."""
    edge, knots = need_table(order, table)
    if not is_row_of(order, row):
        raise BadQuestion("no row of names of the order")
    number, truth = edge[0], not edge[1]
    while number >= 0:
        name, high, low = knots[number]
        number, flip = high if name in row else low
        truth = truth != flip
    return truth


def formula_of(order, table):
    """The FORMULA that goes as a TABLE goes; it may be of any size."""
    edge, knots = need_table(order, table)
    return formula_from(edge, knots, {})


def knots_by(order, table):
    """For each NAME of an ORDER how many KNOTS of a TABLE have it."""
    _, knots = need_table(order, table)
    counts = {name: 0 for name in order}
    for knot in knots:
        counts[knot[0]] += 1
    return counts
