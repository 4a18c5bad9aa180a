"""The KNOTS of functions of the NAMES of an ORDER.

A function is a number, its truths (truths.py) by the ORDER, the topmost NAME's weight the greatest.
So the upper half of its bits is the function where the topmost NAME is yes, the lower half where it
is no, and so on: what is left of it at a level is a part of its bits, a number by itself. A part is
straight where its first bit is set, as that is the bit of the ROW of all NAMES.
"""

from knotweb.formulas import YES


def half_widths(many):
    """For each level of so many NAMES how many bits each half of a part at that level has."""
    return [1 << (many - level - 1) for level in range(many)]


class Knots:
    """All KNOTS of some functions: at each level its straight parts, and how often each is wanted.

    Wanted is a KNOT by each function that it is the whole of, and by each KNOT that goes to it.
    """

    def __init__(self, many):
        self.widths = half_widths(many)
        self.wanted = [{} for _ in self.widths]
        self.total = 0

    def want(self, part, by, level=0):
        """A part is wanted once more or, by -1, once less; KNOTS come and go with that."""
        for at in range(level, len(self.widths)):
            width = self.widths[at]
            mask = (1 << width) - 1
            high = part >> width
            low = part & mask
            if high == low:
                part = high
                continue
            if not high >> (width - 1):
                high ^= mask
                low ^= mask
                part = high << width | low
            ahead = self.wanted[at].get(part, 0)
            self.wanted[at][part] = ahead + by
            if ahead + by == 0:
                del self.wanted[at][part]
            if ahead == 0 or ahead + by == 0:
                self.total += by
                self.want(high, by, at + 1)
                self.want(low, by, at + 1)
            return

    def counts(self):
        """At each level how many KNOTS there are."""
        return [len(knots) for knots in self.wanted]


def knots_of(functions, many):
    """All KNOTS of some functions of so many NAMES, a dict from anything to their truths."""
    knots = Knots(many)
    for truths in functions.values():
        knots.want(truths, 1)
    return knots


class Tabling:
    """The TABLE of one function: its EDGE, and its KNOTS as they are met."""

    def __init__(self, names, truths):
        self.names = names
        self.widths = half_widths(len(names))
        self.numbers = {}
        self.triples = []
        self.edge = self.edge_to(truths, 0)

    def edge_to(self, part, level):
        """The EDGE to what is left at a level; its KNOTS that weren't met are put down."""
        for at in range(level, len(self.widths)):
            width = self.widths[at]
            mask = (1 << width) - 1
            high = part >> width
            low = part & mask
            if high != low:
                flip = not high >> (width - 1)
                if flip:
                    high ^= mask
                    low ^= mask
                return (self.number_of(high, low, at), flip)
            part = high
        return (-1, part == 0)

    def number_of(self, high, low, level):
        """The number of a KNOT of two unlike halves, the first a straight one."""
        key = (level, high << self.widths[level] | low)
        if key not in self.numbers:
            number = len(self.triples)
            self.numbers[key] = number
            # Its place is taken ahead of those that it goes to.
            self.triples.append(None)
            first = self.edge_to(high, level + 1)
            second = self.edge_to(low, level + 1)
            self.triples[number] = (self.names[level], first, second)
        return self.numbers[key]

    def table(self):
        """The TABLE."""
        return (self.edge, tuple(self.triples))


def formula_from(edge, triples, made):
    """The FORMULA of an EDGE; made are those of KNOTS by their numbers, as far as there are some."""
    number, flip = edge
    whole = YES if number < 0 else made.get(number)
    if whole is None:
        name, high, low = triples[number]
        first = formula_from(high, triples, made)
        second = formula_from(low, triples, made)
        whole = ("if", ("name", name), first, second)
        made[number] = whole
    return ("not", whole) if flip else whole


def truths_from(edge, triples, at, made):
    """The truths of an EDGE, as at works them out; made are those of KNOTS, as far as there are some."""
    number, flip = edge
    whole = at.whole if number < 0 else made.get(number)
    if whole is None:
        name, high, low = triples[number]
        first = truths_from(high, triples, at, made)
        second = truths_from(low, triples, at, made)
        whole = at.choice(at.having[name], first, second)
        made[number] = whole
    return at.whole ^ whole if flip else whole
