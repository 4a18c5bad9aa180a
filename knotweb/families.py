"""FAMILIES of ROWS, and SHEETS: a FAMILY as its KNOTS by an ORDER, for each FAMILY just one."""

from knotweb.errors import BadFamily, BadSheet
from knotweb.formulas import need_order
from knotweb.kinds import is_name_of, is_number, row_place, wrong_row
from knotweb.knots import half_widths
from knotweb.links import is_pair_with, wrong_link
from knotweb.tables import MOST_KNOTS
from knotweb.truths import Truths

# The numbers that stand for the FAMILY of no SETS, and for that of () alone.
NO_SETS = -2
EMPTY_SET = -1


def need_family(order, thing):
    """The thing itself, if it is a FAMILY of an ORDER."""
    need_order(order)
    if not isinstance(thing, tuple):
        raise BadFamily(())
    number = wrong_row(order, thing)
    if number is not None:
        raise BadFamily((number,))
    return thing


class Sheeting:
    """The SHEET of one FAMILY: its EDGE, and its KNOTS as they are met.

    The FAMILY is the number that has the bits of its ROWS by the ORDER, as of a function
    that is yes at these; so of each part the upper half are those with the topmost NAME.
    """

    def __init__(self, names, rows):
        self.names = names
        self.widths = half_widths(len(names))
        self.numbers = {}
        self.triples = []
        self.edge = self.edge_to(rows, 0)

    def edge_to(self, part, level):
        """The number of what is left at a level; its KNOTS that weren't met are put down."""
        for at in range(level, len(self.widths)):
            # What has no SET with the NAME is left as it is, one half less.
            if part >> self.widths[at]:
                return self.number_of(part, at)
        return EMPTY_SET if part else NO_SETS

    def number_of(self, part, level):
        """The number of a KNOT of this level's NAME."""
        key = (level, part)
        if key not in self.numbers:
            width = self.widths[level]
            number = len(self.triples)
            self.numbers[key] = number
            # Its place is taken ahead of those that it goes to.
            self.triples.append(None)
            first = self.edge_to(part >> width, level + 1)
            second = self.edge_to(part & ((1 << width) - 1), level + 1)
            self.triples[number] = (self.names[level], first, second)
        return self.numbers[key]


def sheet_of(order, family):
    """The SHEET of a FAMILY by an ORDER."""
    need_family(order, family)
    sheeting = Sheeting(order, Truths(order).at_rows(family))
    return (sheeting.edge, tuple(sheeting.triples))


def is_sheet_knot(order, thing, many):
    """Whether a thing of any kind is a KNOT of a SHEET by its own form, one of so many."""
    if not isinstance(thing, tuple) or len(thing) != 3 or not is_name_of(order, thing[0]):
        return False
    return is_number(thing[1], EMPTY_SET, many - 1) and is_number(thing[2], NO_SETS, many - 1)


def need_sheet(order, thing):
    """The thing itself, if it is a SHEET by an ORDER."""
    need_order(order)
    if not is_pair_with(thing, MOST_KNOTS):
        raise BadSheet(())
    edge, knots = thing
    if not is_number(edge, NO_SETS, len(knots) - 1):
        raise BadSheet(("edge",))
    for number, knot in enumerate(knots):
        if not is_sheet_knot(order, knot, len(knots)):
            raise BadSheet((number,))
    place = wrong_link(order, edge, knots, [knot[1:] for knot in knots])
    if place is not None:
        raise BadSheet(place)
    return thing


def sets_from(number, knots, made):
    """The SETS of what a number stands for, as tuples; made are those of KNOTS, as far as there are some."""
    if number == NO_SETS:
        return []
    if number == EMPTY_SET:
        return [()]
    if number not in made:
        name, first, second = knots[number]
        having = [(name, *names) for names in sets_from(first, knots, made)]
        made[number] = having + sets_from(second, knots, made)
    return made[number]


def family_of(order, sheet):
    """The FAMILY of a SHEET by an ORDER."""
    edge, knots = need_sheet(order, sheet)
    rows = [tuple(sorted(names)) for names in sets_from(edge, knots, {})]
    return tuple(sorted(rows, key=row_place))
