"""A plain double of SHELVES: families as frozensets of rows, all by going through all sets."""

from tests.plainweb import Refusal, family_sheet, is_number, is_row, number_in, row_key, rows_by, with_it


def set_knots(family, order):
    """All subs of a family, as sets of rows, that have a set other than ()."""
    found = set()

    def meet(sub):
        if not any(sub) or sub in found:
            return
        found.add(sub)
        name = next(name for name in order if any(name in row for row in sub))
        meet(frozenset(with_it(row, name, False) for row in sub if name in row))
        meet(frozenset(row for row in sub if name not in row))

    meet(frozenset(family))
    return found


def knots_of_families(families, order):
    return {knot for family in families for knot in set_knots(family, order)}


def as_row(names):
    return tuple(sorted(set(names)))


def in_order(rows):
    return tuple(sorted(rows, key=row_key))


def has_common(row, other):
    return any(name in other for name in row)


def within(row, other):
    return all(name in other for name in row)


class PlainShelf:
    """What a Shelf should be, by the words."""

    def __init__(self, order, room=2000):
        self.order = order
        self.room = room
        self.families = {}
        self.last = 0

    # The deeds are methods that begin with "do_"; those that make a handle tell its family.

    def deed(self, word, *handed):
        """Does a deed; tells what it tells, or a Refusal."""
        try:
            told = getattr(self, "do_" + word)(*handed)
            return self.added(told) if isinstance(told, frozenset) else told
        except Refusal as refusal:
            return refusal

    def all_families(self):
        return list(self.families.values())

    def many(self):
        return len(knots_of_families(self.all_families(), self.order))

    def added(self, family):
        many = len(knots_of_families(self.all_families() + [family], self.order))
        if many > self.room:
            raise Refusal("TooGreat", many)
        self.last += 1
        self.families[self.last] = family
        return self.last

    def held(self, h):
        if not (is_number(h) and h in self.families):
            raise Refusal("NoSuch", h)
        return self.families[h]

    def both(self, h, k):
        return self.held(h), self.held(k)

    def need_name(self, name):
        if not (type(name) is str and name in self.order):
            raise Refusal("NoSuch", name)

    def need(self, truth):
        if not truth:
            raise Refusal("BadQuestion")

    def sets(self, wanted):
        """The family of all sets of names of the order that are wanted."""
        return frozenset(row for row in rows_by(self.order) if wanted(row))

    def do_make(self, family):
        return frozenset(family)

    def do_union(self, h, k):
        f, g = self.both(h, k)
        return self.sets(lambda row: row in f or row in g)

    def do_common(self, h, k):
        f, g = self.both(h, k)
        return self.sets(lambda row: row in f and row in g)

    def do_less(self, h, k):
        f, g = self.both(h, k)
        return self.sets(lambda row: row in f and row not in g)

    def do_join(self, h, k):
        f, g = self.both(h, k)
        return frozenset(as_row(one + other) for one in f for other in g)

    def do_meets(self, h, k):
        f, g = self.both(h, k)
        return frozenset(as_row(name for name in one if name in other) for one in f for other in g)

    def divided(self, f, g):
        self.need(g)
        return self.sets(lambda row: all(not has_common(row, other) and as_row(row + other) in f for other in g))

    def do_quotient(self, h, k):
        return self.divided(*self.both(h, k))

    def do_remainder(self, h, k):
        f, g = self.both(h, k)
        whole = {as_row(one + other) for one in self.divided(f, g) for other in g}
        return f - whole

    def do_least(self, h):
        f = self.held(h)
        return frozenset(row for row in f if not any(within(other, row) for other in f if other != row))

    def do_greatest(self, h):
        f = self.held(h)
        return frozenset(row for row in f if not any(within(row, other) for other in f if other != row))

    def do_holding(self, h, k):
        f, g = self.both(h, k)
        return frozenset(row for row in f if any(within(other, row) for other in g))

    def do_lying(self, h, k):
        f, g = self.both(h, k)
        return frozenset(row for row in f if any(within(row, other) for other in g))

    def do_cuts(self, h):
        f = self.held(h)
        cutting = self.sets(lambda row: all(has_common(row, other) for other in f))
        return frozenset(row for row in cutting if not any(within(other, row) for other in cutting if other != row))

    def do_with_name(self, h, name):
        f = self.held(h)
        self.need_name(name)
        return frozenset(with_it(row, name, False) for row in f if name in row)

    def do_rest(self, h, name):
        f = self.held(h)
        self.need_name(name)
        return frozenset(row for row in f if name not in row)

    def do_changed(self, h, name):
        f = self.held(h)
        self.need_name(name)
        return frozenset(with_it(row, name, name not in row) for row in f)

    def do_let_go(self, h):
        self.held(h)
        del self.families[h]

    def do_to_order(self, order):
        for name in self.order:
            if name not in order:
                raise Refusal("NoSuch", name)
        for name in order:
            self.need_name(name)
        many = len(knots_of_families(self.all_families(), order))
        if many > self.room:
            raise Refusal("TooGreat", many)
        self.order = order
        return many

    # Questions.

    def do_family(self, h):
        return in_order(self.held(h))

    def do_sheet(self, h):
        return family_sheet(self.held(h), self.order)

    def do_count(self, h):
        return len(self.held(h))

    def do_set_at(self, h, number):
        f = in_order(self.held(h))
        self.need(number_in(number, 0, len(f) - 1))
        return f[number]

    def do_number_of(self, h, row):
        f = in_order(self.held(h))
        self.need(is_row(row, self.order))
        return f.index(row) if row in f else None

    def do_lightest(self, h, weights):
        f = in_order(self.held(h))
        self.need(type(weights) is dict and sorted(map(repr, weights)) == sorted(map(repr, self.order)))
        self.need(all(number_in(weight, -10 ** 12 + 1, 10 ** 12 - 1) for weight in weights.values()))
        sums = [(sum(weights[name] for name in row), row) for row in f]
        return min(sums, key=lambda pair: (pair[0], row_key(pair[1])), default=None)

    def do_is_one(self, h, k):
        f, g = self.both(h, k)
        return f == g
