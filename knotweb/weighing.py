"""Lists of numbers, one for each ROW of some NAMES by its number (truths.py), weighed and summed.

The upper half of such a list is what is come to where the topmost NAME is yes, and so on.
"""

from math import gcd


def numbers_from(truths, size):
    """1 for each of so many ROWS at which truths are yes, 0 for the others."""
    return [truths >> row & 1 for row in range(size)]


def halves(numbers):
    """What numbers are where the topmost NAME is yes, and where it is no."""
    middle = len(numbers) // 2
    return numbers[middle:], numbers[:middle]


def weighed(numbers, names, chances):
    """The sum of each number times its ROW's chance, as a pair in lowest terms."""
    whole = 1
    for name in names:
        up, down = chances[name]
        high, low = halves(numbers)
        numbers = [up * above + (down - up) * below for above, below in zip(high, low)]
        whole *= down
    total = numbers[0]
    common = gcd(total, whole)
    return (total // common, whole // common)


def hung_on(numbers, weights):
    """The NAMES, by their weights, on which numbers hang."""
    rows = range(len(numbers))
    found = []
    for name, weight in weights.items():
        if any([numbers[row] != numbers[row | weight] for row in rows]):
            found.append(name)
    return found


def summed_over(numbers, weight):
    """For each ROW the sum of what it and the ROW that differs in just the NAME of a weight come to."""
    return [number + numbers[row ^ weight] for row, number in enumerate(numbers)]


class Ledgering:
    """The LEDGER of one list of numbers: its EDGE, and its KNOTS as they are met."""

    def __init__(self, names, numbers):
        self.names = names
        self.met = {}
        self.triples = []
        self.edge = self.edge_to(tuple(numbers), 0)

    def edge_to(self, part, level):
        """The EDGE to what is left at a level; its KNOTS that weren't met are put down."""
        for at in range(level, len(self.names)):
            high, low = halves(part)
            if high != low:
                return ("knot", self.number_of(part, at))
            part = high
        return ("end", part[0])

    def number_of(self, part, level):
        """The number of a KNOT of this level's NAME."""
        key = (level, part)
        if key not in self.met:
            number = len(self.triples)
            self.met[key] = number
            # Its place is taken ahead of those that it goes to.
            self.triples.append(None)
            high, low = halves(part)
            first = self.edge_to(high, level + 1)
            second = self.edge_to(low, level + 1)
            self.triples[number] = (self.names[level], first, second)
        return self.met[key]

    def ledger(self):
        """The LEDGER."""
        return (self.edge, tuple(self.triples))
