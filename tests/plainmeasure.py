"""Plain doubles of MEASURES, LEDGERS and CHANCES, slow and by the words; numbers with fractions of Python's own."""

from fractions import Fraction

from tests.plain import is_plain_name, plain_names, plain_refusal, plain_yes
from tests.plainweb import is_number, number_in, row_key, rows_by, with_it

FULL = 10 ** 12 - 1
SIZES = {"plus": 2, "times": 2, "lesser": 2, "greater": 2}


def own_form(part):
    """Whether a part is a MEASURE by its own form."""
    if type(part) is not tuple or not part or type(part[0]) is not str:
        return False
    if part[0] == "number":
        return len(part) == 2 and number_in(part[1], -FULL, FULL)
    if part[0] == "choose":
        return len(part) == 4 and plain_refusal(part[1]) is None
    return part[0] in SIZES and len(part) == 3


def inner(part):
    return part[2:] if part[0] == "choose" else () if part[0] == "number" else part[1:]


def met(thing, way=()):
    """All (way, part) as they are met, no further beneath what is none or too deep."""
    yield way, thing
    if len(way) <= 5 and own_form(thing):
        for at, part in enumerate(inner(thing)):
            yield from met(part, (*way, at))


def measure_refusal(thing):
    """The way by which a thing is refused as a measure, None for a measure."""
    names = set()
    for count, (way, part) in enumerate(met(thing), start=1):
        if count > 20 or len(way) > 5 or not own_form(part):
            return way
        if part[0] == "choose":
            names |= set(plain_names(part[1]))
        if len(names) > 10:
            return way
    return None


def measure_names(measure):
    """The names of a measure as they are met."""
    found = []
    for _, part in met(measure):
        if part[0] == "choose":
            found.extend(one for one in plain_names(part[1]) if one not in found)
    return found


def plain_value(measure, row):
    word = measure[0]
    if word == "number":
        return measure[1]
    if word == "choose":
        return plain_value(measure[2] if plain_yes(measure[1], row) else measure[3], row)
    first, second = plain_value(measure[1], row), plain_value(measure[2], row)
    return {"plus": first + second, "times": first * second,
            "lesser": first if first < second else second, "greater": first if first > second else second}[word]


def values(measure, names):
    """What a measure comes to, a dict from all rows of names."""
    return {row: plain_value(measure, row) for row in rows_by(tuple(sorted(names)))}


def hung(worth, names):
    """The names, as they stand, on which values, a dict from rows, hang."""
    return [name for name in names if any(
        worth[row] != worth[with_it(row, name, False)] for row in worth)]


def plain_ledger(worth, order):
    """The ledger of values, a dict from all rows of names of order."""
    found, triples = [], []

    def fixed(sub, name, truth):
        return {row: sub[with_it(row, name, truth)] for row in sub}

    def edge(sub):
        names = hung(sub, order)
        if not names:
            return ("end", sub[()])
        if sub not in found:
            number = len(found)
            found.append(sub)
            triples.append(None)
            high = edge(fixed(sub, names[0], True))
            triples[number] = (names[0], high, edge(fixed(sub, names[0], False)))
        return ("knot", found.index(sub))

    return (edge(worth), tuple(triples))


def plain_sums(worth, names):
    """Values summed over names."""
    told = {}
    for row in worth:
        told[row] = sum(worth[other] for other in worth if not (set(row) ^ set(other)) - set(names))
    return told


def are_chances(thing):
    if type(thing) is not dict:
        return False
    for name, pair in thing.items():
        if not (is_plain_name(name) and type(pair) is tuple and len(pair) == 2 and all(map(is_number, pair))
                and 0 <= pair[0] <= pair[1] <= 999 and pair[1] > 0):
            return False
    return True


def plain_mean(worth, names, chances):
    """The mean of values, a dict from all rows of names, as a pair."""
    total = Fraction(0)
    for row, number in worth.items():
        chance = Fraction(1)
        for name in names:
            yes = Fraction(*chances[name])
            chance *= yes if name in row else 1 - yes
        total += number * chance
    return (total.numerator, total.denominator)


def first_row(worth, number):
    return min((row for row in worth if worth[row] == number), key=row_key)
