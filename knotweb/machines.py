"""MACHINES walked by images: LAYERS, RUNS, papers of what never is, SAYINGS."""

from knotweb.errors import BadFamily, BadFormula, BadMachine, BadPaper, BadQuestion, BadSaying, NoSuch
from knotweb.families import need_family
from knotweb.formulas import is_name, names_in
from knotweb.kinds import is_row_of
from knotweb.nesting import first_wrong
from knotweb.stepping import Stepping, together

MOST_STATE_NAMES = 5

# How many SAYINGS stand behind each word.
SIZES = {"at": 0, "not": 1, "and": 2, "next": 1, "until": 2, "always": 1}


def are_names(names, nexts):
    """Whether two things of any kind are tuples of as many NAMES, one to five, all unlike."""
    if not isinstance(names, tuple) or not isinstance(nexts, tuple):
        return False
    if len(names) != len(nexts) or not 1 <= len(names) <= MOST_STATE_NAMES:
        return False
    both = (*names, *nexts)
    for at, name in enumerate(both):
        if not is_name(name) or name in both[:at]:
            return False
    return True


def names_of(word, formula):
    """The NAMES of a FORMULA that stands in a MACHINE, as they are met."""
    try:
        return names_in(formula)
    except BadFormula as error:
        raise BadMachine((word, error.place)) from None


def need_only(word, names, allowed):
    """Refuses NAMES that a FORMULA in a MACHINE mayn't have."""
    for name in names:
        if name not in allowed:
            raise BadMachine((word, name))


def need_machine(thing):
    """The thing itself, if it is a MACHINE."""
    if not isinstance(thing, tuple) or len(thing) != 4:
        raise BadMachine(())
    names, nexts, first, step = thing
    if not are_names(names, nexts):
        raise BadMachine(("names",))
    in_first = names_of("first", first)
    in_step = names_of("step", step)
    need_only("first", in_first, names)
    need_only("step", in_step, (*names, *nexts))
    return thing


def states_of(machine, states):
    """The Stepping of a MACHINE, and the bits of a FAMILY of its STATES."""
    need_machine(machine)
    need_family(machine[0], states)
    stepping = Stepping(machine)
    return stepping, stepping.states.at_rows(states)


def after(machine, states):
    """The AFTER of some STATES."""
    stepping, bits = states_of(machine, states)
    return stepping.family(stepping.after(bits))


def ahead(machine, states):
    """The AHEAD of some STATES."""
    stepping, bits = states_of(machine, states)
    return stepping.family(stepping.ahead(bits))


def layers(machine):
    """The LAYERS."""
    stepping = Stepping(need_machine(machine))
    return tuple([stepping.family(layer) for layer in stepping.layers()])


def where_yes(machine, formula):
    """The Stepping of a MACHINE, and the bits of the STATES at which a FORMULA is yes."""
    need_machine(machine)
    for name in names_in(formula):
        if name not in machine[0]:
            raise NoSuch(name)
    stepping = Stepping(machine)
    return stepping, stepping.states.truths_of(formula)


def run_to(machine, formula):
    """The RUN to a FORMULA, None without."""
    stepping, ends = where_yes(machine, formula)
    run = stepping.run_to(ends)
    return None if run is None else tuple(run)


def need_run(machine, formula, thing):
    """The thing itself, if it is a RUN at whose last STATE a FORMULA is yes."""
    stepping, ends = where_yes(machine, formula)
    if not isinstance(thing, tuple) or len(thing) == 0:
        raise BadPaper(())
    there = stepping.first
    state = 0
    for number, row in enumerate(thing):
        if not is_row_of(machine[0], row):
            raise BadPaper((number,))
        state = stepping.states.row_number(row)
        if not there >> state & 1:
            raise BadPaper((number,))
        there = stepping.led[state]
    if not ends >> state & 1:
        raise BadPaper(("end",))
    return thing


def never_paper(machine, formula):
    """The FAMILY of all that are come to, if a FORMULA is yes at none of them, else None."""
    stepping, ends = where_yes(machine, formula)
    met = together(stepping.layers())
    return None if met & ends else stepping.family(met)


def need_never(machine, formula, thing):
    """The thing itself, if it is a paper that a FORMULA is never yes."""
    stepping, ends = where_yes(machine, formula)
    try:
        need_family(machine[0], thing)
    except BadFamily:
        raise BadPaper(()) from None
    states = stepping.states
    others = states.whole ^ states.at_rows(thing)
    if stepping.first & others:
        raise BadPaper(("first", states.first_at(stepping.first & others)))
    for row in thing:
        beyond = stepping.led[states.row_number(row)] & others
        if beyond:
            raise BadPaper(("after", row, states.first_at(beyond)))
    inside = ends & (states.whole ^ others)
    if inside:
        raise BadPaper(("yes", states.first_at(inside)))
    return thing


def inner_sayings(part):
    """The SAYINGS that stand in one itself."""
    return () if part[0] == "at" else part[1:]


def is_formed(part, names):
    """Whether a thing of any kind is a SAYING by its own form, its NAMES among some."""
    # The word is asked for its kind first: what can't be a key mustn't come to SIZES.
    if not isinstance(part, tuple) or len(part) < 2 or not isinstance(part[0], str) or part[0] not in SIZES:
        return False
    if part[0] != "at":
        return len(part) == 1 + SIZES[part[0]]
    if len(part) != 2:
        return False
    try:
        own = names_in(part[1])
    except BadFormula:
        return False
    return all([name in names for name in own])


def need_saying(machine, thing):
    """The thing itself, if it is a SAYING of a MACHINE."""
    names = need_machine(machine)[0]

    def inner_of(part):
        return inner_sayings(part) if is_formed(part, names) else None

    way = first_wrong(thing, inner_of)
    if way is not None:
        raise BadSaying(way)
    return thing


def rounds_by(stepping, saying):
    """The ROUNDS of an "until" or an "always", a list."""
    parts = [so_by(stepping, part) for part in saying[1:]]
    if saying[0] == "until":
        return stepping.until_rounds(parts[0], parts[1])
    return stepping.always_rounds(parts[0])


def so_by(stepping, saying):
    """The bits of the STATES at which a SAYING is so."""
    word = saying[0]
    whole = stepping.states.whole
    if word == "at":
        return stepping.states.truths_of(saying[1])
    if word == "until":
        return together(rounds_by(stepping, saying))
    if word == "always":
        return whole ^ together(rounds_by(stepping, saying))
    bits = so_by(stepping, saying[1])
    if word == "not":
        return whole ^ bits
    if word == "next":
        return stepping.ahead(bits)
    return bits & so_by(stepping, saying[2])


def so_at(machine, saying):
    """The STATES at which a SAYING is so."""
    need_saying(machine, saying)
    stepping = Stepping(machine)
    return stepping.family(so_by(stepping, saying))


def rounds_of(machine, saying):
    """The ROUNDS of an "until" or an "always"."""
    need_saying(machine, saying)
    if saying[0] not in ("until", "always"):
        raise BadQuestion("only until and always have rounds")
    stepping = Stepping(machine)
    return tuple([stepping.family(bits) for bits in rounds_by(stepping, saying)])
