"""The truths of a FORMULA at all ROWS of some NAMES at once, as the bits of one number."""

from itertools import combinations


def in_row_order(things):
    """All choices out of a list, as tuples: of rising NAMES these are the ROWS in their order."""
    chosen = []
    for many in range(len(things) + 1):
        chosen.extend(list(combinations(things, many)))
    return chosen


def weights_of(names):
    """For each NAME the number of its bit, the first one's the greatest."""
    last = len(names) - 1
    return {name: 1 << (last - at) for at, name in enumerate(names)}


class Truths:
    """Works out FORMULAS over a list of NAMES, among them all of the FORMULA.

    A ROW has the number that is the sum of its NAMES' weights, and truths are
    a number that has the bit of just this number where the FORMULA is yes.
    """

    def __init__(self, names):
        self.whole = (1 << (1 << len(names))) - 1
        self.weight = weights_of(names)
        self.having = {name: self.rows_with(weight) for name, weight in self.weight.items()}
        self.row_bits = None

    def rows_with(self, weight):
        """The truths of the NAME itself that has this weight."""
        # whole // (2 ** weight + 1) has runs of as many ones and noughts as the weight says.
        return (self.whole // ((1 << weight) + 1)) << weight

    def row_number(self, row):
        """The number of a ROW; NAMES that aren't there don't count."""
        return sum([self.weight[name] for name in row if name in self.weight])

    def bits(self):
        """All ROWS of the NAMES, in their order, each with its bit in truths."""
        # Worked out where it's first asked for: most who need truths never do, some do again and again.
        if self.row_bits is None:
            rows = in_row_order(sorted(self.weight))
            self.row_bits = [(row, 1 << self.row_number(row)) for row in rows]
        return self.row_bits

    def rows_at(self, truths):
        """The ROWS at which truths are yes, in their order."""
        return [row for row, bit in self.bits() if truths & bit]

    def first_at(self, truths):
        """The first ROW at which truths are yes, None without."""
        for row, bit in self.bits():
            if truths & bit:
                return row
        return None

    def at_rows(self, rows):
        """The truths of what is yes at just these ROWS, unlike ones."""
        truths = 0
        for row in rows:
            truths |= 1 << self.row_number(row)
        return truths

    def where_yes(self, name, truths):
        """At each ROW what truths come to where NAME is yes."""
        high = truths & self.having[name]
        return high | high >> self.weight[name]

    def where_no(self, name, truths):
        """At each ROW what truths come to where NAME is no."""
        low = truths & (self.whole ^ self.having[name])
        return low | low << self.weight[name]

    def hung_on(self, truths):
        """The NAMES on which truths hang, as they stand here."""
        return tuple([name for name in self.weight if self.where_yes(name, truths) != truths])

    def choice(self, truths, high, low):
        """High where truths are yes, else low."""
        return truths & high | (self.whole ^ truths) & low

    def nearest(self, truths, there):
        """At each ROW what truths come to at the nearest ROW that is there, as some are.

        Nearest is the one that differs as late as can be, going down the NAMES.
        """
        # From the lowest NAME up, by blocks of ROWS that differ only in NAMES gone by: in such
        # a block all that is lacking is there already, or the whole block lacks what is there.
        for name in reversed(list(self.weight)):
            weight = self.weight[name]
            having = self.having[name]
            lacking = self.whole ^ there
            high = (truths << weight) & lacking & having
            low = (truths >> weight) & lacking & (self.whole ^ having)
            truths = truths & there | high | low
            there = there | (there & having) >> weight | (there << weight) & having
        return truths

    def truths_of(self, formula):
        """The truths of a FORMULA."""
        word = formula[0]
        if word == "name":
            return self.having[formula[1]]
        if word in ("some", "all"):
            return self.quantified(word, formula[1], self.truths_of(formula[2]))
        if word == "put":
            return self.replaced(formula[1], self.truths_of(formula[2]), self.truths_of(formula[3]))
        return self.combined(word, [self.truths_of(part) for part in formula[1:]])

    def quantified(self, word, name, truths):
        """Of "some" and "all": both ROWS that differ at most in NAME count."""
        high = self.where_yes(name, truths)
        low = self.where_no(name, truths)
        return high | low if word == "some" else high & low

    def replaced(self, name, put, truths):
        """Of "put": truths where NAME is as put says at the ROW itself."""
        return self.choice(put, self.where_yes(name, truths), self.where_no(name, truths))

    def combined(self, word, parts):
        """Of the words that ask their parts at the same ROW."""
        if word == "yes":
            return self.whole
        if word == "no":
            return 0
        if word == "not":
            return self.whole ^ parts[0]
        if word == "and":
            return parts[0] & parts[1]
        if word == "or":
            return parts[0] | parts[1]
        if word == "xor":
            return parts[0] ^ parts[1]
        return self.choice(parts[0], parts[1], parts[2])
