"""Orders by which functions have fewer KNOTS: one NAME is moved at a time, all others stay as they are.

How many KNOTS there are of a NAME depends only on which NAMES are above it. So for all
places of one NAME all counts can be had in one go down the others, the NAME itself kept lowest.
"""

from knotweb.reordering import steps_between, stepped


def straight(part, whole):
    """The part or its contrary, whichever is straight."""
    return part if part > whole >> 1 else part ^ whole


def halved(parts, width):
    """All halves of straight parts, straight ones, each once, and how many parts have unlike halves."""
    mask = (1 << width) - 1
    halves = {}
    many = 0
    for part in parts:
        high = part >> width
        low = part & mask
        halves[high] = True
        if high != low:
            many += 1
            halves[low if low >> (width - 1) else low ^ mask] = True
    return halves, many


def hanging_on_lowest(parts, width):
    """How many parts, each of two halves of so many bits, hang on the lowest NAME."""
    evens = ((1 << 2 * width) - 1) // 3
    return len([1 for part in parts if (part ^ part >> 1) & evens])


def without_lowest(parts, whole):
    """What straight parts come to where the lowest NAME is yes and where it is no, straight, each once."""
    evens = whole // 3
    found = {}
    for part in parts:
        high = part >> 1 & evens
        low = part & evens
        found[straight(high | high << 1, whole)] = True
        found[straight(low | low << 1, whole)] = True
    return found


def totals_by_place(functions, many):
    """For each place to which the lowest of so many NAMES can be moved how many KNOTS there are then."""
    whole = (1 << (1 << many)) - 1
    parts = functions
    rest = without_lowest(functions, whole)
    own = []
    above = []
    beneath = []
    for level in range(many):
        width = 1 << (many - level - 1)
        own.append(hanging_on_lowest(parts, width))
        parts, with_it = halved(parts, width)
        rest, without_it = halved(rest, width)
        above.append(with_it)
        beneath.append(without_it)
    # Of the others those ahead of the place have it beneath them, those from the place on above them.
    others = many - 1
    return [sum(above[:place]) + own[place] + sum(beneath[place:others]) for place in range(many)]


class Sifting:
    """Some functions, the NAMES in ORDER as it comes to be, and how many KNOTS there are by it.

    The functions stand by "arranged", which is the ORDER but for the NAME sifted last.
    """

    def __init__(self, order, functions):
        whole = (1 << (1 << len(order))) - 1
        self.names = order
        self.arranged = order
        self.functions = list({straight(truths, whole): True for truths in functions})
        self.fewest = None

    def sift(self, name):
        """Moves a NAME to the topmost of the places at which there are the fewest KNOTS."""
        others = [other for other in self.names if other != name]
        self.arrange((*others, name))
        totals = totals_by_place(self.functions, len(self.names))
        self.fewest = min(totals)
        place = totals.index(self.fewest)
        self.names = (*others[:place], name, *others[place:])

    def arrange(self, order):
        """Takes the numbers by another ORDER."""
        steps = steps_between(self.arranged, order)
        self.functions = [stepped(truths, steps) for truths in self.functions]
        self.arranged = order

    def sift_all(self, counts):
        """Sifts at each NAME once, those with more KNOTS first; counts are those of the NAMES by the ORDER."""
        levels = sorted(range(len(counts)), key=lambda level: (-counts[level], level))
        names = [self.names[level] for level in levels]
        for name in names:
            self.sift(name)
