"""Plain doubles of TABLES, PAPERS, WEBS and FAMILIES: functions as sets of rows, slow and by the words.

A function is a frozenset of the rows, tuples, at which it is yes; beside it stand all names there are.
"""

from functools import lru_cache
from itertools import product

from tests.plain import all_rows, plain_yes


def row_key(row):
    return (len(row), row)


@lru_cache(maxsize=None)
def rows_by(names):
    """The rows of names, a tuple, in their order."""
    return tuple(all_rows(names))


def function_of(formula, names):
    """The function of a formula of names."""
    return frozenset(row for row in rows_by(names) if plain_yes(formula, row))


def functions_of(names):
    """All functions of names."""
    rows = rows_by(names)
    for truths in product([False, True], repeat=len(rows)):
        yield frozenset(row for row, truth in zip(rows, truths) if truth)


def with_it(row, name, truth):
    """The row in which a name is as told, all else as it was."""
    return tuple(sorted((set(row) | {name}) if truth else (set(row) - {name})))


@lru_cache(maxsize=None)
def where(function, names, name, truth):
    """What a function comes to where a name is as told."""
    return frozenset(row for row in rows_by(names) if with_it(row, name, truth) in function)


@lru_cache(maxsize=None)
def hangs(function, names):
    """The names, as they stand, on which a function hangs."""
    return tuple(name for name in names if where(function, names, name, True) != function)


def contrary(function, names):
    return frozenset(rows_by(names)) - function


def is_straight(function, names):
    return tuple(sorted(names)) in function


def straight(function, names):
    return function if is_straight(function, names) else contrary(function, names)


# Knots and tables; an order is here of all names that there are.

@lru_cache(maxsize=None)
def subs(function, order):
    """All subs of a function, as they are met: each ahead of its own, where yes ahead of where no."""
    found = [function]
    names = hangs(function, order)
    if names:
        for truth in (True, False):
            for sub in subs(where(function, order, names[0], truth), order):
                if sub not in found:
                    found.append(sub)
    return tuple(found)


@lru_cache(maxsize=None)
def knots(function, order):
    """The knots of a function as straight functions, as they are met."""
    found = []
    for sub in subs(function, order):
        sub = straight(sub, order)
        if hangs(sub, order) and sub not in found:
            found.append(sub)
    return tuple(found)


def knots_of_all(functions, order):
    """The knots of all functions together, each once."""
    return {knot for function in functions for knot in knots(function, order)}


def name_counts(functions, order):
    """For each name of the order how many knots have it."""
    counts = {name: 0 for name in order}
    for knot in knots_of_all(functions, order):
        counts[hangs(knot, order)[0]] += 1
    return counts


@lru_cache(maxsize=None)
def table(function, order):
    """The table of a function."""
    numbers = {knot: number for number, knot in enumerate(knots(function, order))}

    def edge(sub):
        flip = not is_straight(sub, order)
        return (numbers.get(straight(sub, order), -1), flip)

    triples = []
    for knot in numbers:
        name = hangs(knot, order)[0]
        triples.append((name, edge(where(knot, order, name, True)), edge(where(knot, order, name, False))))
    return (edge(function), tuple(triples))


def is_number(thing):
    return type(thing) is int


def is_edge(thing, many):
    return (type(thing) is tuple and len(thing) == 2 and is_number(thing[0]) and -1 <= thing[0] < many
            and type(thing[1]) is bool)


def table_refusal(order, thing):
    """The place by which a thing is refused as a table, None for a table."""
    if not (type(thing) is tuple and len(thing) == 2 and type(thing[1]) is tuple and len(thing[1]) <= 2000):
        return ()
    edge, triples = thing
    if not is_edge(edge, len(triples)):
        return ("edge",)
    for number, knot in enumerate(triples):
        if not (type(knot) is tuple and len(knot) == 3 and type(knot[0]) is str and knot[0] in order
                and is_edge(knot[1], len(triples)) and is_edge(knot[2], len(triples))
                and knot[1] != knot[2] and knot[1][1] is False):
            return (number,)
    return together(order, edge[0], [(name, high[0], low[0]) for name, high, low in triples], triples)


def together(order, edge, links, triples):
    """The first place at which well formed knots aren't as they should be together."""
    for number, (name, *ends) in enumerate(links):
        for end in ends:
            if end >= 0 and order.index(links[end][0]) <= order.index(name):
                return ("beneath", number)
    for number, knot in enumerate(triples):
        if knot in triples[:number]:
            return ("twice", number)
    met = []

    def meet(number):
        if number >= 0 and number not in met:
            met.append(number)
            meet(links[number][1])
            meet(links[number][2])

    meet(edge)
    for number in range(len(triples)):
        if met[number:number + 1] != [number]:
            return ("met", number)
    return None


# Papers.

def sub_at(function, order, many, row):
    """What a function comes to where the first so many names of the order are as in a row."""
    for name in order[:many]:
        function = where(function, order, name, name in row)
    return function


def paper(function, order):
    """The first pairs that show the knots of a function."""
    told = []
    for knot in knots(function, order):
        told.append(next(
            (many, row) for many in range(len(order) + 1) for row in rows_by(tuple(sorted(order[:many])))
            if straight(sub_at(function, order, many, row), order) == knot
        ))
    return tuple(told)


def paper_refusal(function, order, thing):
    """The place by which a thing is refused as a paper of a function, None for a paper."""
    if type(thing) is not tuple or len(thing) > 2000:
        return ()
    shown = []
    for number, pair in enumerate(thing):
        if not (type(pair) is tuple and len(pair) == 2 and is_number(pair[0]) and 0 <= pair[0] <= len(order)
                and is_row(pair[1], order[:pair[0]])):
            return (number,)
        sub = straight(sub_at(function, order, *pair), order)
        if not hangs(sub, order) or sub in shown:
            return (number,)
        shown.append(sub)
    return None


# Orders.

def moved(order, name, place):
    """The order in which a name alone goes to a place."""
    others = [other for other in order if other != name]
    return tuple(others[:place] + [name] + others[place:])


def many_knots(functions, order):
    return len(knots_of_all(functions, order))


def sifted(functions, order, name):
    """The order behind sifting at a name."""
    orders = [moved(order, name, place) for place in range(len(order))]
    return min(orders, key=lambda one: (many_knots(functions, one), one.index(name)))


def sifted_whole(functions, order):
    counts = name_counts(functions, order)
    for name in sorted(order, key=lambda one: (-counts[one], order.index(one))):
        order = sifted(functions, order, name)
    return order


def nearest(row, function, order):
    """The row of a function that differs from a row as late as can be, going down the order."""
    def differs(other):
        return [(name in row) == (name in other) for name in order]
    return max(function, key=differs)


# Rows and families.

def is_row(thing, order):
    return (type(thing) is tuple and all(type(name) is str and name in order for name in thing)
            and list(thing) == sorted(set(thing)))


def family_refusal(order, thing):
    """The place by which a thing is refused as a family, None for a family."""
    if type(thing) is not tuple:
        return ()
    for number, row in enumerate(thing):
        if not is_row(row, order) or number and not row_key(thing[number - 1]) < row_key(row):
            return (number,)
    return None


def family_sheet(family, order):
    """The sheet of a family, a set of rows."""
    found = []

    def topmost(sub):
        return next(name for name in order if any(name in row for row in sub))

    def halves(sub):
        name = topmost(sub)
        having = frozenset(with_it(row, name, False) for row in sub if name in row)
        return having, frozenset(row for row in sub if name not in row)

    def meet(sub):
        if any(sub) and sub not in found:
            found.append(sub)
            for half in halves(sub):
                meet(half)

    def number(sub):
        if not sub:
            return -2
        return found.index(sub) if any(sub) else -1

    whole = frozenset(family)
    meet(whole)
    return (number(whole), tuple((topmost(sub), *map(number, halves(sub))) for sub in found))


def sheet_refusal(order, thing):
    """The place by which a thing is refused as a sheet, None for a sheet."""
    if not (type(thing) is tuple and len(thing) == 2 and type(thing[1]) is tuple and len(thing[1]) <= 2000):
        return ()
    edge, triples = thing
    if not (is_number(edge) and -2 <= edge < len(triples)):
        return ("edge",)
    for number, knot in enumerate(triples):
        if not (type(knot) is tuple and len(knot) == 3 and type(knot[0]) is str and knot[0] in order
                and is_number(knot[1]) and -1 <= knot[1] < len(triples)
                and is_number(knot[2]) and -2 <= knot[2] < len(triples)):
            return (number,)
    return together(order, edge, triples, triples)


# Webs.

class Refusal(Exception):
    """What a plain web refuses: the word for the kind, and its field."""

    def __init__(self, kind, field=None):
        Exception.__init__(self, kind, field)
        self.kind = kind
        self.field = field


def number_in(thing, least, most):
    return is_number(thing) and least <= thing <= most


class PlainWeb:
    """What a Web should be, by the words; each deed asks for all knots anew."""

    def __init__(self, order, room=2000):
        self.order = order
        self.room = room
        self.functions = {}
        self.last = 0
        self.log = []

    # The deeds are methods that begin with "do_"; those that make a handle tell its function.

    def deed(self, word, *handed, **named):
        """Does a deed, put down in the log; tells what it tells, or a Refusal."""
        number = len(self.log) // 2 + 1
        self.log.append(("begun", number))
        try:
            told = getattr(self, "do_" + word)(*handed, **named)
            if isinstance(told, frozenset):
                told = self.added(told)
        except Refusal as refusal:
            self.log.append(("refused", number))
            return refusal
        self.log.append(("done", number))
        return told

    def all_functions(self):
        return list(self.functions.values())

    def many(self):
        return many_knots(self.all_functions(), self.order)

    def added(self, function):
        functions = self.all_functions() + [function]
        order = self.order
        if many_knots(functions, order) > self.room:
            order = sifted_whole(functions, order)
            if many_knots(functions, order) > self.room:
                raise Refusal("TooGreat", many_knots(functions, order))
        self.order = order
        self.last += 1
        self.functions[self.last] = function
        return self.last

    def function(self, h):
        if not (is_number(h) and h in self.functions):
            raise Refusal("NoSuch", h)
        return self.functions[h]

    def need_name(self, name):
        if not (type(name) is str and name in self.order):
            raise Refusal("NoSuch", name)

    def need(self, truth):
        if not truth:
            raise Refusal("BadQuestion")

    def of(self, wanted):
        """The function that is yes where wanted(row) is."""
        return frozenset(row for row in rows_by(self.order) if wanted(row))

    def do_make(self, formula, names):
        for name in names:
            self.need_name(name)
        return function_of(formula, self.order)

    def do_of_rows(self, rows):
        self.need(type(rows) is tuple and all(is_row(row, self.order) for row in rows))
        self.need(list(rows) == sorted(set(rows), key=row_key))
        return frozenset(rows)

    def do_contrary(self, h):
        return contrary(self.function(h), self.order)

    def do_both(self, h, k):
        return self.function(h) & self.function(k)

    def do_either(self, h, k):
        return self.function(h) | self.function(k)

    def do_unlike(self, h, k):
        return self.function(h) ^ self.function(k)

    def do_choice(self, h, k, l):
        f, g, e = self.function(h), self.function(k), self.function(l)
        return self.of(lambda row: row in (g if row in f else e))

    def do_some(self, h, names):
        f = self.function(h)
        self.need(type(names) is tuple)
        for name in names:
            self.need_name(name)
        for name in names:
            f = self.of(lambda row: any(with_it(row, name, truth) in f for truth in (True, False)))
        return f

    def do_all_of(self, h, names):
        f = self.function(h)
        self.need(type(names) is tuple)
        for name in names:
            self.need_name(name)
        for name in names:
            f = self.of(lambda row: all(with_it(row, name, truth) in f for truth in (True, False)))
        return f

    def do_put(self, h, name, k):
        f = self.function(h)
        self.need_name(name)
        g = self.function(k)
        return self.of(lambda row: with_it(row, name, row in g) in f)

    def do_fixed(self, h, name, truth):
        f = self.function(h)
        self.need_name(name)
        self.need(type(truth) is bool)
        return where(f, self.order, name, truth)

    def do_within(self, h, c):
        f, g = self.function(h), self.function(c)
        self.need(g)
        return self.of(lambda row: nearest(row, g, self.order) in f)

    def do_again(self, h):
        return self.function(h)

    def do_let_go(self, h):
        self.function(h)
        del self.functions[h]

    def do_collect(self):
        return None

    def ordered(self, order):
        many = many_knots(self.all_functions(), order)
        if many > self.room:
            raise Refusal("TooGreat", many)
        self.order = order
        return many

    def do_swap(self, level):
        self.need(number_in(level, 0, len(self.order) - 2))
        return self.ordered(moved(self.order, self.order[level], level + 1))

    def do_move(self, name, place):
        self.need_name(name)
        self.need(number_in(place, 0, len(self.order) - 1))
        return self.ordered(moved(self.order, name, place))

    def do_to_order(self, order):
        for name in self.order:
            if name not in order:
                raise Refusal("NoSuch", name)
        for name in order:
            self.need_name(name)
        return self.ordered(order)

    def do_sift(self, name):
        self.need_name(name)
        self.order = sifted(self.all_functions(), self.order, name)
        return self.order.index(name)

    def do_sift_all(self):
        self.order = sifted_whole(self.all_functions(), self.order)
        return self.order

    def do_add_name(self, name, place=None):
        self.need(type(name) is str and name.isalpha() and name.islower() and len(name) <= 8)
        self.need(name not in self.order and len(self.order) < 10)
        self.need(place is None or number_in(place, 0, len(self.order)))
        place = len(self.order) if place is None else place
        self.order = (*self.order[:place], name, *self.order[place:])
        self.functions = {
            h: self.of(lambda row: with_it(row, name, False) in f) for h, f in self.functions.items()
        }

    def do_drop_name(self, name):
        self.need_name(name)
        for f in self.functions.values():
            if name in hangs(f, self.order):
                raise Refusal("HangsOn", name)
        self.order = tuple(other for other in self.order if other != name)
        self.functions = {h: frozenset(row for row in f if name not in row) for h, f in self.functions.items()}

    def do_set_room(self, room):
        self.need(number_in(room, 0, 2000))
        self.need(room >= self.many())
        self.room = room
