"""Plain doubles of MACHINES, by going through all pairs of states."""

from tests.plain import is_plain_name, plain_names, plain_refusal, plain_yes
from tests.plainweb import family_refusal, is_row, row_key, rows_by

SIZES = {"not": 1, "and": 2, "next": 1, "until": 2, "always": 1}


def in_order(states):
    return tuple(sorted(states, key=row_key))


def machine_refusal(thing):
    """The place by which a thing is refused as a machine, None for a machine."""
    if type(thing) is not tuple or len(thing) != 4:
        return ()
    names, nexts, first, step = thing
    if not (type(names) is tuple and type(nexts) is tuple and 1 <= len(names) == len(nexts) <= 5
            and all(map(is_plain_name, names + nexts)) and len(set(names + nexts)) == len(names + nexts)):
        return ("names",)
    for word, formula in (("first", first), ("step", step)):
        way = plain_refusal(formula)
        if way is not None:
            return (word, way)
    for word, formula, allowed in (("first", first, names), ("step", step, names + nexts)):
        for one in plain_names(formula):
            if one not in allowed:
                return (word, one)
    return None


class PlainMachine:
    """What is asked of a machine, by the words."""

    def __init__(self, machine):
        names, nexts, first, step = machine
        self.names = names
        self.states = rows_by(tuple(sorted(names)))
        self.first = frozenset(state for state in self.states if plain_yes(first, state))
        self.pairs = {
            (one, other) for one in self.states for other in self.states
            if plain_yes(step, set(one) | {nexts[names.index(name)] for name in other})
        }

    def after(self, some):
        return frozenset(other for one, other in self.pairs if one in some)

    def ahead(self, some):
        return frozenset(one for one, other in self.pairs if other in some)

    def layers(self):
        told = [self.first]
        while True:
            more = self.after(told[-1]).difference(*told)
            if not more:
                return told
            told.append(more)

    def met(self):
        return frozenset().union(*self.layers())

    def yes_at(self, formula):
        return frozenset(state for state in self.states if plain_yes(formula, state))

    def run_to(self, formula):
        """The run by going through all runs that are as long, in rows' order, None without."""
        ends = self.yes_at(formula)
        if not self.met() & ends:
            return None
        runs = [(state,) for state in in_order(self.first)]
        while True:
            fine = [run for run in runs if run[-1] in ends]
            if fine:
                return fine[0]
            runs = [(*run, state) for run in runs for state in in_order(self.after({run[-1]}))]

    def run_refusal(self, formula, thing):
        if type(thing) is not tuple or not thing:
            return ()
        for number, state in enumerate(thing):
            if not is_row(state, self.names):
                return (number,)
            if state not in (self.after({thing[number - 1]}) if number else self.first):
                return (number,)
        return None if thing[-1] in self.yes_at(formula) else ("end",)

    def never_refusal(self, formula, thing):
        if family_refusal(self.names, thing) is not None:
            return ()
        for state in in_order(self.first):
            if state not in thing:
                return ("first", state)
        for state in thing:
            for other in in_order(self.after({state})):
                if other not in thing:
                    return ("after", state, other)
        for state in thing:
            if state in self.yes_at(formula):
                return ("yes", state)
        return None

    def own_form(self, part):
        """Whether a part is a SAYING by its own form."""
        if type(part) is not tuple or not part or type(part[0]) is not str:
            return False
        if part[0] == "at":
            return (len(part) == 2 and plain_refusal(part[1]) is None
                    and all(one in self.names for one in plain_names(part[1])))
        return part[0] in SIZES and len(part) == 1 + SIZES[part[0]]

    def met_in(self, thing, way=()):
        """All (way, part) as they are met, no further beneath what is none or too deep."""
        yield way, thing
        if len(way) <= 5 and self.own_form(thing) and thing[0] != "at":
            for at, part in enumerate(thing[1:]):
                yield from self.met_in(part, (*way, at))

    def saying_refusal(self, thing):
        for count, (way, part) in enumerate(self.met_in(thing), start=1):
            if count > 20 or len(way) > 5 or not self.own_form(part):
                return way
        return None

    def so_at(self, saying):
        """The states at which a saying is so; "until" and "always" by going step by step, not by rounds."""
        word = saying[0]
        if word == "at":
            return self.yes_at(saying[1])
        parts = [self.so_at(part) for part in saying[1:]]
        if word == "not":
            return frozenset(self.states) - parts[0]
        if word == "and":
            return parts[0] & parts[1]
        if word == "next":
            return frozenset(state for state in self.states if self.after({state}) & parts[0])
        if word == "until":
            return frozenset(state for state in self.states if self.comes(state, *parts))
        return frozenset(state for state in self.states if self.goes_on(state, parts[0]))

    def comes(self, state, through, to):
        """Whether some states from one on come to one of "to", all ahead of it ones of "through"."""
        seen, waiting = set(), [state]
        while waiting:
            one = waiting.pop()
            if one in to:
                return True
            if one in through and one not in seen:
                seen.add(one)
                waiting.extend(self.after({one}))
        return False

    def goes_on(self, state, there):
        """Whether there are so many steps on from a state within "there" that some state comes twice."""
        some = {state} & there
        for _ in self.states:
            some = self.after(some) & there
        return bool(some)

    def rounds_of(self, saying):
        parts = [self.so_at(part) for part in saying[1:]]
        every = frozenset(self.states)
        told = [parts[1] if saying[0] == "until" else every - parts[0]]
        while True:
            gone = frozenset().union(*told)
            if saying[0] == "until":
                more = (parts[0] - gone) & self.ahead(told[-1])
            else:
                more = frozenset(state for state in every - gone if self.after({state}) <= gone)
            if not more:
                return told
            told.append(more)
