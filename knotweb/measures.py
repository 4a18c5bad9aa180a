"""MEASURES: numbers at the ends, and chances."""

from knotweb.errors import BadFormula, BadMeasure, BadQuestion, NoSuch
from knotweb.formulas import MOST_NAMES, is_name, is_yes, names_in, need_order, need_row
from knotweb.kinds import is_name_of, is_number
from knotweb.nesting import first_wrong
from knotweb.truths import Truths, in_row_order
from knotweb.weighing import Ledgering, hung_on, numbers_from, summed_over, weighed

# The greatest number of at most 12 figures, and the greatest whole of a chance.
MOST_NUMBER = 999_999_999_999
MOST_DOWN = 999

# How many things stand behind each word.
SIZES = {"number": 1, "choose": 3, "plus": 2, "times": 2, "lesser": 2, "greater": 2}


def inner_measures(part):
    """The MEASURES that stand in one itself."""
    if part[0] == "number":
        return ()
    return part[2:] if part[0] == "choose" else part[1:]


def is_formed(part, names):
    """Whether a thing of any kind is a MEASURE by its own form; names are those met, to which its own come."""
    # The word is asked for its kind first: what can't be a key mustn't come to SIZES.
    if not isinstance(part, tuple) or len(part) == 0 or not isinstance(part[0], str):
        return False
    if SIZES.get(part[0]) != len(part) - 1:
        return False
    if part[0] == "number":
        return is_number(part[1], -MOST_NUMBER, MOST_NUMBER)
    if part[0] == "choose":
        try:
            for name in names_in(part[1]):
                names[name] = True
        except BadFormula:
            return False
    return len(names) <= MOST_NAMES


def met_in(measure):
    """The NAMES of a MEASURE, each once, as they are met, a list."""
    names = {}

    def inner_of(part):
        return inner_measures(part) if is_formed(part, names) else None

    way = first_wrong(measure, inner_of)
    if way is not None:
        raise BadMeasure(way)
    return list(names)


def need_measure(thing):
    """The thing itself, if it is a MEASURE."""
    met_in(thing)
    return thing


def put_together(word, first, second):
    """What the words that have two MEASURES make of their numbers."""
    if word == "plus":
        return first + second
    if word == "times":
        return first * second
    if word == "lesser":
        return min(first, second)
    return max(first, second)


def value_of(measure, row):
    """What a MEASURE comes to at a ROW."""
    word = measure[0]
    if word == "number":
        return measure[1]
    if word == "choose":
        return value_of(measure[2] if is_yes(measure[1], row) else measure[3], row)
    return put_together(word, value_of(measure[1], row), value_of(measure[2], row))


def values_of(measure, truths, size):
    """What a MEASURE comes to at each of so many ROWS, by their numbers."""
    word = measure[0]
    if word == "number":
        return [measure[1]] * size
    first, second = [values_of(part, truths, size) for part in inner_measures(measure)]
    if word == "choose":
        bits = truths.truths_of(measure[1])
        return [first[row] if bits >> row & 1 else second[row] for row in range(size)]
    return [put_together(word, one, other) for one, other in zip(first, second)]


def value_at(measure, row):
    """What a MEASURE comes to at a ROW."""
    need_measure(measure)
    return value_of(measure, need_row(row))


def ledger_of(measure, order):
    """The LEDGER of a MEASURE by an ORDER."""
    met = met_in(measure)
    need_order(order)
    names = [name for name in order if name in met]
    # Where it hangs on none of the others, with these on top each part beneath tells the whole.
    others = [name for name in met if name not in order]
    truths = Truths(others + names)
    values = values_of(measure, truths, 1 << len(met))
    for name in sorted(hung_on(values, truths.weight)):
        if name not in order:
            raise NoSuch(name)
    return Ledgering(names, values[:1 << len(names)]).ledger()


def numbers_of(measure):
    """All that a MEASURE comes to, rising, each once."""
    met = met_in(measure)
    return tuple(sorted(set(values_of(measure, Truths(met), 1 << len(met)))))


def names_by(measure, order):
    """The NAMES of a MEASURE as they stand in an ORDER, which has them all."""
    met = met_in(measure)
    need_order(order)
    for name in met:
        if name not in order:
            raise NoSuch(name)
    return [name for name in order if name in met]


def greatest_at(measure, order):
    """The greatest number that a MEASURE comes to, and the first ROW at which it does."""
    # NAMES of the ORDER that the MEASURE hasn't are in no first ROW.
    names = sorted(names_by(measure, order))
    truths = Truths(names)
    values = values_of(measure, truths, 1 << len(names))
    greatest = max(values)
    rows = [row for row in in_row_order(names) if values[truths.row_number(row)] == greatest]
    return (greatest, rows[0])


def summed(measure, order, names):
    """The LEDGER of a MEASURE SUMMED over NAMES of an ORDER."""
    own = names_by(measure, order)
    if not isinstance(names, tuple):
        raise BadQuestion("no tuple of names")
    for at, name in enumerate(names):
        if not is_name_of(order, name) or name in names[:at]:
            raise BadQuestion("no unlike names of the order")
    truths = Truths(own)
    values = values_of(measure, truths, 1 << len(own))
    for name in names:
        values = summed_over(values, truths.weight.get(name, 0))
    return Ledgering(own, values).ledger()


def is_chance(thing):
    """Whether a thing of any kind is a pair (UP, DOWN)."""
    if not isinstance(thing, tuple) or len(thing) != 2 or not is_number(thing[1], 1, MOST_DOWN):
        return False
    return is_number(thing[0], 0, thing[1])


def need_chances(thing, names):
    """Refuses what is no CHANCES, or lacks one of some NAMES."""
    if not isinstance(thing, dict):
        raise BadQuestion("no chances")
    for name, pair in thing.items():
        if not is_name(name) or not is_chance(pair):
            raise BadQuestion("no chances")
    for name in names:
        if name not in thing:
            raise BadQuestion("a name without a chance")


def share_of(formula, chances):
    """The chance that a FORMULA is yes."""
    names = names_in(formula)
    need_chances(chances, names)
    numbers = numbers_from(Truths(names).truths_of(formula), 1 << len(names))
    return weighed(numbers, names, chances)


def mean_of(measure, chances):
    """The sum of each number that a MEASURE comes to times its chance."""
    names = met_in(measure)
    need_chances(chances, names)
    return weighed(values_of(measure, Truths(names), 1 << len(names)), names, chances)
