"""FAMILIES as numbers: each has the bits of its SETS, as a function has those of the ROWS at which it is yes."""

from knotweb.knots import half_widths
from knotweb.truths import Truths


class Families(Truths):
    """Works out FAMILIES of an ORDER."""

    def with_name(self, name, family):
        """Those with a NAME, without it."""
        return (family & self.having[name]) >> self.weight[name]

    def rest(self, name, family):
        """Those that don't have a NAME."""
        return family & (self.whole ^ self.having[name])

    def added(self, name, family):
        """Those that don't have a NAME, with it."""
        return self.rest(name, family) << self.weight[name]

    def changed(self, name, family):
        """Each with a NAME that hadn't, without it that had."""
        return self.with_name(name, family) | self.added(name, family)

    def upwards(self, family):
        """All SETS of NAMES of the ORDER within which one of a FAMILY lies."""
        for name in self.weight:
            family |= self.added(name, family)
        return family

    def downwards(self, family):
        """All SETS that lie within one of a FAMILY."""
        for name in self.weight:
            family |= self.with_name(name, family)
        return family

    def least(self, family):
        """Those within which no other one lies."""
        greater = 0
        for name in self.weight:
            greater |= self.added(name, family)
        return family & (self.whole ^ self.upwards(greater))

    def greatest(self, family):
        """Those that lie within no other one."""
        lesser = 0
        for name in self.weight:
            lesser |= self.with_name(name, family)
        return family & (self.whole ^ self.downwards(lesser))

    def cuts(self, family):
        """The least of all SETS that have a NAME in common with each of a FAMILY."""
        # A SET has none in common with another one just where it lies within all NAMES but the other's.
        for name in self.weight:
            family = self.changed(name, family)
        return self.least(self.whole ^ self.downwards(family))

    def put_together(self, family, other):
        """All SETS that are one of either FAMILY put together."""
        found = 0
        for names in self.rows_at(family):
            moved = other
            for name in names:
                moved = moved & self.having[name] | self.added(name, moved)
            found |= moved
        return found

    def in_common(self, family, other):
        """All SETS that one of either FAMILY have in common."""
        found = 0
        for names in self.rows_at(family):
            moved = other
            for name in self.weight:
                if name not in names:
                    moved = self.rest(name, moved) | self.with_name(name, moved)
            found |= moved
        return found

    def quotient(self, family, other):
        """Of a FAMILY by one that has a SET: what, put together with each of that, without a NAME twice, is in it."""
        found = self.whole
        for names in self.rows_at(other):
            left = family
            for name in names:
                left = self.with_name(name, left)
            found &= left
        return found


class SetKnots:
    """All KNOTS of some FAMILIES: at each level its SUBS with a NAME, and how often each is wanted.

    Wanted is a KNOT by each FAMILY that it is the whole of, and by each KNOT that goes to it.
    """

    def __init__(self, many):
        self.widths = half_widths(many)
        self.wanted = [{} for _ in self.widths]
        self.total = 0

    def want(self, part, by, level=0):
        """A part is wanted once more or, by -1, once less; KNOTS come and go with that."""
        for at in range(level, len(self.widths)):
            having = part >> self.widths[at]
            # What has no SET with the NAME is left as it is, one half less.
            if having == 0:
                continue
            ahead = self.wanted[at].get(part, 0)
            self.wanted[at][part] = ahead + by
            if ahead + by == 0:
                del self.wanted[at][part]
            if ahead == 0 or ahead + by == 0:
                self.total += by
                self.want(having, by, at + 1)
                self.want(part & ((1 << self.widths[at]) - 1), by, at + 1)
            return


def set_knots_of(families, many):
    """All KNOTS of some FAMILIES of so many NAMES, a dict from anything to their numbers."""
    knots = SetKnots(many)
    for family in families.values():
        knots.want(family, 1)
    return knots
