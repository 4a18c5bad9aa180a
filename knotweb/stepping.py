"""STATES and STEPS of a MACHINE, the STATES as the bits of one number, as ROWS are in truths.py."""

from knotweb.truths import Truths


class Stepping:
    """The STATES of a MACHINE, the FIRST ones, and to which ones STEPS lead from each."""

    def __init__(self, machine):
        names, nexts, first, step = machine
        self.states = Truths(names)
        self.first = self.states.truths_of(first)
        # All that goes out from one STATE are the bits in a row that have its NAMES on top.
        steps = Truths((*names, *nexts)).truths_of(step)
        size = 1 << len(names)
        self.led = [steps >> state * size & self.states.whole for state in range(size)]

    def states_in(self, bits):
        """The numbers of STATES, a list."""
        return [state for state in range(len(self.led)) if bits >> state & 1]

    def after(self, bits):
        """Those to which a STEP leads from one of some."""
        found = 0
        for state in self.states_in(bits):
            found |= self.led[state]
        return found

    def ahead(self, bits):
        """Those from which a STEP leads to one of some."""
        found = 0
        for state, led in enumerate(self.led):
            if led & bits:
                found |= 1 << state
        return found

    def only_into(self, bits):
        """Those from which no STEP leads to others than some."""
        return self.states.whole ^ self.ahead(self.states.whole ^ bits)

    def layers(self):
        """The LAYERS, a list."""
        layers = [self.first]
        met = self.first
        more = self.after(met) & (self.states.whole ^ met)
        while more:
            layers.append(more)
            met |= more
            more = self.after(more) & (self.states.whole ^ met)
        return layers

    def until_rounds(self, through, to):
        """The ROUNDS of "until", a list."""
        rounds = [to]
        met = to
        more = self.ahead(to) & through & (self.states.whole ^ met)
        while more:
            rounds.append(more)
            met |= more
            more = self.ahead(more) & through & (self.states.whole ^ met)
        return rounds

    def always_rounds(self, there):
        """The ROUNDS of "always", a list."""
        met = self.states.whole ^ there
        rounds = [met]
        more = self.only_into(met) & (self.states.whole ^ met)
        while more:
            rounds.append(more)
            met |= more
            more = self.only_into(met) & (self.states.whole ^ met)
        return rounds

    def run_to(self, ends):
        """The RUN to some STATES, a list of ROWS, None without."""
        layers = self.layers()
        many = 1
        while many <= len(layers) and not layers[many - 1] & ends:
            many += 1
        if many > len(layers):
            return None
        # At each place just those count from which the end can be come to in time.
        ways = [layers[many - 1] & ends]
        for layer in layers[:many - 1][::-1]:
            ways.append(layer & self.ahead(ways[-1]))
        run = []
        there = self.states.whole
        for bits in ways[::-1]:
            row = self.states.first_at(bits & there)
            run.append(row)
            there = self.led[self.states.row_number(row)]
        return run

    def family(self, bits):
        """STATES as a FAMILY."""
        return tuple(self.states.rows_at(bits))


def together(parts):
    """All STATES that are in some part."""
    bits = 0
    for part in parts:
        bits |= part
    return bits
