"""How many KNOTS a function has by all ORDERS of its NAMES at once.

How many KNOTS there are of a NAME depends only on which NAMES are above it, not on their order.
So the fewest of all NAMES of a SET, as the lowest ones, come of those of the SETS within it.
"""

from knotweb.sifting import straight
from knotweb.truths import Truths, in_row_order


def without(names, name):
    """A ROW without one of its NAMES."""
    return tuple([other for other in names if other != name])


class Widths:
    """The widths of a function of NAMES, rising, on all of which it hangs; SETS of these are ROWS."""

    def __init__(self, names, truths):
        self.names = tuple(names)
        self.at = Truths(self.names)
        self.left = {self.names: {straight(truths, self.at.whole): True}}

    def left_of(self, lowest):
        """What the function comes to, straight, each once, where all but the lowest NAMES are told."""
        if lowest not in self.left:
            told = [name for name in self.names if name not in lowest][0]
            found = {}
            for part in self.left_of(tuple(sorted((*lowest, told)))):
                found[straight(self.at.where_yes(told, part), self.at.whole)] = True
                found[straight(self.at.where_no(told, part), self.at.whole)] = True
            self.left[lowest] = found
        return self.left[lowest]

    def width(self, name, beneath):
        """How many KNOTS of a NAME there are, with just the NAMES of a SET beneath it."""
        parts = self.left_of(tuple(sorted((*beneath, name))))
        return len([1 for part in parts if self.at.where_yes(name, part) != part])

    def bounds(self):
        """For each SET of NAMES, in their order, the fewest KNOTS of these by an ORDER with these lowest."""
        found = {(): 0}
        for lowest in in_row_order(self.names)[1:]:
            found[lowest] = min([self.with_top(name, lowest, found) for name in lowest])
        return found

    def with_top(self, name, lowest, bounds):
        """The fewest KNOTS of a SET's NAMES, one of these the topmost of them; bounds has all SETS within it."""
        beneath = without(lowest, name)
        return self.width(name, beneath) + bounds[beneath]

    def least_order(self):
        """The first ORDER by which there are the fewest KNOTS, and how many there are."""
        bounds = self.bounds()
        order = []
        lowest = self.names
        while lowest:
            # They rise, so the first one that can be the topmost is the one to take.
            best = [name for name in lowest if self.with_top(name, lowest, bounds) == bounds[lowest]]
            order.append(best[0])
            lowest = without(lowest, best[0])
        return tuple(order), bounds[self.names]
