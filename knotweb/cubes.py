"""CUBES of a function's NAMES, among them its PRIMES and its COVER, and which ROWS they COVER."""

from knotweb.kinds import row_place
from knotweb.truths import Truths, in_row_order


def cube_place(cube):
    """What is the lesser of two CUBES, the earlier the CUBE stands in their order."""
    yes, no = cube
    return (len(yes) + len(no), row_place(yes), row_place(no))


def kept_numbers(covered):
    """Which of some that each have the bits of what they COVER are left, told by their numbers.

    From the last to the first each goes that has no bit that no other one has that is still there.
    """
    ahead = [0]
    for bits in covered:
        ahead.append(ahead[-1] | bits)
    kept = []
    behind = 0
    for at in reversed(range(len(covered))):
        others = ahead[at] | behind
        if covered[at] | others != others:
            behind |= covered[at]
            kept.append(at)
    return kept[::-1]


def alone(covered):
    """Of each of some the bits that it alone of them has."""
    once = 0
    twice = 0
    for bits in covered:
        twice |= once & bits
        once |= bits
    return [bits ^ bits & twice for bits in covered]


class Cubes:
    """The CUBES of a function of NAMES, rising, on all of which it hangs."""

    def __init__(self, names, truths):
        self.names = names
        self.at = Truths(names)
        self.truths = truths

    def covered_by(self, cube):
        """The bits of the ROWS that a CUBE COVERS."""
        yes, no = cube
        bits = self.at.whole
        for name in yes:
            bits &= self.at.having[name]
        for name in no:
            bits &= self.at.whole ^ self.at.having[name]
        return bits

    def all_covered(self, cubes):
        """The bits of what each of some CUBES COVERS, a list."""
        return [self.covered_by(cube) for cube in cubes]

    def yes_without(self):
        """For each ROW of NAMES the truths of where the function is yes, whatever these NAMES are."""
        found = {(): self.truths}
        for left_out in in_row_order(self.names)[1:]:
            found[left_out] = self.at.quantified("all", left_out[-1], found[left_out[:-1]])
        return found

    def primes(self):
        """The PRIMES, in their order, a list."""
        yes = self.yes_without()
        found = []
        for left_out, truths in yes.items():
            others = [name for name in self.names if name not in left_out]
            for name in others:
                truths &= self.at.whole ^ yes[tuple(sorted((*left_out, name)))]
            # All ROWS that differ in the NAMES left out are of one CUBE, which that without them tells.
            for name in left_out:
                truths &= self.at.whole ^ self.at.having[name]
            for row in self.at.rows_at(truths):
                found.append((row, tuple([name for name in others if name not in row])))
        return sorted(found, key=cube_place)

    def cover(self):
        """The COVER, in its order, a list."""
        primes = self.primes()
        return [primes[at] for at in kept_numbers(self.all_covered(primes))]
