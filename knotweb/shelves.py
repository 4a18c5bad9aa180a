"""SHELVES: FAMILIES of the NAMES of an ORDER under HANDLES, with ROOM for so many KNOTS."""

from knotweb.errors import BadQuestion, NoSuch, TooGreat
from knotweb.families import Sheeting, need_family
from knotweb.formulas import need_order
from knotweb.kinds import is_name_of, is_number, is_row_of
from knotweb.reordering import by_order
from knotweb.rooms import need_room
from knotweb.setsofsets import Families, set_knots_of
from knotweb.tables import MOST_KNOTS

# The greatest number of at most 12 figures.
MOST_WEIGHT = 999_999_999_999


def is_weights(order, thing):
    """Whether a thing of any kind is a dict from all NAMES of an ORDER, and no others, to weights."""
    if not isinstance(thing, dict) or len(thing) != len(order):
        return False
    for name in order:
        if not is_number(thing.get(name), -MOST_WEIGHT, MOST_WEIGHT):
            return False
    return True


class Shelf:
    """Each HANDLE's FAMILY is kept as a number by the ORDER, and the KNOTS of all are kept count of."""

    def __init__(self, order, *, room=MOST_KNOTS):
        need_order(order)
        self._room = need_room(room)
        self._last = 0
        self._stand(order, {}, set_knots_of({}, len(order)))

    # What the deeds and the questions below are made of.

    def _stand(self, order, families, knots):
        """From here on the ORDER is this one, and these are the HANDLES' FAMILIES and KNOTS by it."""
        self._order = tuple(order)
        self._families = families
        self._knots = knots
        self._sets = Families(order)

    def _held(self, h):
        """The number of the FAMILY for which a HANDLE stands."""
        if not is_number(h, 1, self._last) or h not in self._families:
            raise NoSuch(h)
        return self._families[h]

    def _divisor(self, k):
        """The number of a HANDLE's FAMILY that others can be divided by."""
        family = self._held(k)
        if family == 0:
            raise BadQuestion("divided by a family without sets")
        return family

    def _need_name(self, name):
        """Refuses what is no NAME of ORDER."""
        if not is_name_of(self._order, name):
            raise NoSuch(name)

    def _added(self, family):
        """A new HANDLE of a FAMILY, if there's room for it."""
        self._knots.want(family, 1)
        total = self._knots.total
        if total > self._room:
            self._knots.want(family, -1)
            raise TooGreat(total)
        self._last += 1
        self._families[self._last] = family
        return self._last

    # Deeds that make a HANDLE.

    def make(self, family):
        """A HANDLE of a FAMILY."""
        need_family(self._order, family)
        return self._added(self._sets.at_rows(family))

    def union(self, h, k):
        """A HANDLE of all SETS of both."""
        return self._added(self._held(h) | self._held(k))

    def common(self, h, k):
        """A HANDLE of the SETS that are in both."""
        return self._added(self._held(h) & self._held(k))

    def less(self, h, k):
        """A HANDLE of h's SETS that aren't k's."""
        family = self._held(h)
        return self._added(family ^ family & self._held(k))

    def join(self, h, k):
        """A HANDLE of all that are one of h's and one of k's put together."""
        return self._added(self._sets.put_together(self._held(h), self._held(k)))

    def meets(self, h, k):
        """A HANDLE of all that one of h's and one of k's have in common."""
        return self._added(self._sets.in_common(self._held(h), self._held(k)))

    def quotient(self, h, k):
        """A HANDLE of the QUOTIENT of h by k."""
        return self._added(self._sets.quotient(self._held(h), self._divisor(k)))

    def remainder(self, h, k):
        """A HANDLE of what of h isn't the JOIN of k and the QUOTIENT."""
        family = self._held(h)
        divisor = self._divisor(k)
        whole = self._sets.put_together(self._sets.quotient(family, divisor), divisor)
        return self._added(family ^ family & whole)

    def least(self, h):
        """A HANDLE of the SETS within which no other one lies."""
        return self._added(self._sets.least(self._held(h)))

    def greatest(self, h):
        """A HANDLE of the SETS that lie within no other one."""
        return self._added(self._sets.greatest(self._held(h)))

    def holding(self, h, k):
        """A HANDLE of h's SETS within which one of k's lies."""
        return self._added(self._held(h) & self._sets.upwards(self._held(k)))

    def lying(self, h, k):
        """A HANDLE of h's SETS that lie within one of k's."""
        return self._added(self._held(h) & self._sets.downwards(self._held(k)))

    def cuts(self, h):
        """A HANDLE of the least SETS that have a NAME in common with each."""
        return self._added(self._sets.cuts(self._held(h)))

    def with_name(self, h, name):
        """A HANDLE of the SETS with a NAME, without it."""
        family = self._held(h)
        self._need_name(name)
        return self._added(self._sets.with_name(name, family))

    def rest(self, h, name):
        """A HANDLE of the SETS that don't have a NAME."""
        family = self._held(h)
        self._need_name(name)
        return self._added(self._sets.rest(name, family))

    def changed(self, h, name):
        """A HANDLE of the SETS, each with a NAME that hadn't, without it that had."""
        family = self._held(h)
        self._need_name(name)
        return self._added(self._sets.changed(name, family))

    # Other deeds.

    def let_go(self, h):
        """The HANDLE is there no longer."""
        self._knots.want(self._held(h), -1)
        del self._families[h]

    def to_order(self, order):
        """Takes an ORDER of the same NAMES; tells how many KNOTS there are then."""
        need_order(order)
        for name in self._order:
            if name not in order:
                raise NoSuch(name)
        for name in order:
            self._need_name(name)
        families = by_order(self._families, self._order, order)
        knots = set_knots_of(families, len(order))
        if knots.total > self._room:
            raise TooGreat(knots.total)
        self._stand(order, families, knots)
        return knots.total

    # Questions about HANDLES.

    def family(self, h):
        """The FAMILY."""
        return tuple(self._sets.rows_at(self._held(h)))

    def sheet(self, h):
        """The SHEET of the FAMILY by the ORDER."""
        sheeting = Sheeting(self._order, self._held(h))
        return (sheeting.edge, tuple(sheeting.triples))

    def count(self, h):
        """How many SETS there are."""
        return len(self.family(h))

    def set_at(self, h, number):
        """The SET of a number, from 0."""
        rows = self.family(h)
        if not is_number(number, 0, len(rows) - 1):
            raise BadQuestion("no set has that number")
        return rows[number]

    def number_of(self, h, row):
        """The number of a SET, from 0, None of one that isn't there."""
        rows = self.family(h)
        if not is_row_of(self._order, row):
            raise BadQuestion("no row of names of the order")
        return rows.index(row) if row in rows else None

    def lightest(self, h, weights):
        """The least sum of a SET's weights, and the first SET of that sum; None without SETS."""
        rows = self.family(h)
        if not is_weights(self._order, weights):
            raise BadQuestion("no weights of just the names of the order")
        best = None
        for row in rows:
            total = sum([weights[name] for name in row])
            if best is None or total < best[0]:
                best = (total, row)
        return best

    def is_one(self, h, k):
        """Whether two HANDLES stand for the same FAMILY."""
        return self._held(h) == self._held(k)

    # Questions about the whole.

    def many(self):
        """How many KNOTS all HANDLES have together."""
        return self._knots.total

    def order(self):
        """The ORDER."""
        return self._order

    def room(self):
        """The ROOM."""
        return self._room

    def handles(self):
        """The HANDLES, rising."""
        return sorted(self._families)

    # The whole as a thing.

    def copy(self):
        """Another SHELF that stands likewise and goes on by itself."""
        other = Shelf(self._order, room=self._room)
        other._last = self._last
        families = dict(self._families)
        other._stand(self._order, families, set_knots_of(families, len(self._order)))
        return other

    def __len__(self):
        return len(self._families)

    def __eq__(self, other):
        return isinstance(other, Shelf) and self._order == other._order and self._families == other._families

    def __str__(self):
        return f"{len(self._families)} handles, {self._knots.total} knots"

    def __repr__(self):
        return f"Shelf({str(self)})"
