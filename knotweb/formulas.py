"""FORMULAS: which things are some, and what they come to at ROWS."""

from knotweb.errors import BadFormula, BadOrder, BadQuestion, NoSuch
from knotweb.truths import Truths, in_row_order, weights_of

MOST_NAMES = 10
MOST_PARTS = 60
MOST_WITHIN = 9
MOST_LETTERS = 8
YES = ("yes",)
NO = ("no",)

# How many NAMES, and behind them how many FORMULAS, stand behind each word.
SHAPES = {
    "yes": (0, 0),
    "no": (0, 0),
    "name": (1, 0),
    "not": (0, 1),
    "and": (0, 2),
    "or": (0, 2),
    "xor": (0, 2),
    "if": (0, 3),
    "some": (1, 1),
    "all": (1, 1),
    "put": (1, 2),
}


def is_name(thing):
    """Whether a thing of any kind is a NAME."""
    if not isinstance(thing, str) or not 1 <= len(thing) <= MOST_LETTERS:
        return False
    return thing.isascii() and thing.isalpha() and thing.islower()


def is_row(thing):
    """Whether a thing of any kind is a ROW."""
    if not isinstance(thing, tuple):
        return False
    for at, name in enumerate(thing):
        if not is_name(name) or at > 0 and thing[at - 1] >= name:
            return False
    return True


def is_formed(part):
    """Whether a thing of any kind is a FORMULA by its own form, whatever its parts are."""
    # The word is asked for its kind first: what can't be a key mustn't come to SHAPES.
    if not isinstance(part, tuple) or len(part) == 0 or not isinstance(part[0], str):
        return False
    shape = SHAPES.get(part[0])
    if shape is None or len(part) != 1 + shape[0] + shape[1]:
        return False
    return shape[0] == 0 or is_name(part[1])


def name_in(part):
    """The NAME that stands in a part itself, None without."""
    return part[1] if SHAPES[part[0]][0] == 1 else None


def parts_of(part):
    """The FORMULAS that stand in a part itself, as a tuple."""
    return part[1 + SHAPES[part[0]][0]:]


def need_formula(thing):
    """The thing itself, if it is a FORMULA."""
    names = {}
    many = 0
    # A list of what is still to be met instead of calls within calls: things may be of any depth.
    waiting = [((), thing)]
    while waiting:
        way, part = waiting.pop()
        many += 1
        if many > MOST_PARTS or len(way) > MOST_WITHIN or not is_formed(part):
            raise BadFormula(way)
        name = name_in(part)
        if name is not None:
            names[name] = True
        if len(names) > MOST_NAMES:
            raise BadFormula(way)
        inner = parts_of(part)
        for at in reversed(range(len(inner))):
            waiting.append(((*way, at), inner[at]))
    return thing


def need_order(thing):
    """The thing itself, if it is an ORDER."""
    if not isinstance(thing, tuple) or len(thing) > MOST_NAMES:
        raise BadOrder(())
    for at, name in enumerate(thing):
        if not is_name(name) or name in thing[:at]:
            raise BadOrder((at,))
    return thing


def need_row(thing):
    """The thing itself, if it is a ROW."""
    if not is_row(thing):
        raise BadQuestion("no row")
    return thing


def parts_met(formula):
    """The parts of a FORMULA as they are met, each ahead of its own, a list."""
    met = []
    waiting = [need_formula(formula)]
    while waiting:
        part = waiting.pop()
        met.append(part)
        waiting.extend(parts_of(part)[::-1])
    return met


def names_in(formula):
    """The NAMES of a FORMULA, each once, as they are met."""
    names = {}
    for part in parts_met(formula):
        name = name_in(part)
        if name is not None:
            names[name] = True
    return list(names)


def is_yes(formula, row):
    """Whether a FORMULA is yes at a ROW."""
    truths = Truths(sorted(names_in(formula)))
    number = truths.row_number(need_row(row))
    return (truths.truths_of(formula) >> number) & 1 == 1


def rows_of(formula, order):
    """The ROWS of NAMES of an ORDER at which a FORMULA is yes, in their order."""
    met = names_in(formula)
    names = sorted(need_order(order))
    for name in met:
        if name not in names:
            raise NoSuch(name)
    truths = Truths(names)
    bits = truths.truths_of(formula)
    return [row for row in in_row_order(names) if (bits >> truths.row_number(row)) & 1 == 1]


def hangs_on(formula):
    """The NAMES on which a FORMULA HANGS, rising."""
    names = sorted(names_in(formula))
    truths = Truths(names)
    bits = truths.truths_of(formula)
    return tuple([name for name in names if truths.where_yes(name, bits) != truths.where_no(name, bits)])


def first_numbers(formula, weight, shared):
    """Of each choice of shared NAMES, and each truth: the number, by weights, of the first ROW.

    The weights are those of the NAMES of two FORMULAS; shared is the sum of the weights
    of those that are in both.
    """
    names = sorted(names_in(formula))
    truths = Truths(names)
    bits = truths.truths_of(formula)
    own_rows = in_row_order([truths.weight[name] for name in names])
    rows = in_row_order([weight[name] for name in names])
    firsts = {}
    for own, row in zip(own_rows, rows):
        number = sum(row)
        firsts.setdefault((number & shared, (bits >> sum(own)) & 1), number)
    return firsts


def place_in_order(number):
    """What is the lesser of two numbers of ROWS, the earlier the ROW stands in their order."""
    # Of two ROWS of one length that one is ahead that has the first NAME in which they
    # differ, and the first NAME has the greatest weight.
    digits = f"{number:b}"
    return (digits.count("1"), -number)


def differ_at(formula, other):
    """The first ROW of NAMES of both FORMULAS at which just one is yes, None without."""
    ours = names_in(formula)
    theirs = names_in(other)
    names = sorted(set(ours + theirs))
    weight = weights_of(names)
    shared = sum([weight[name] for name in ours if name in theirs])
    # Two FORMULAS may have 20 NAMES, too many to go through all ROWS. But for each choice of
    # the shared ones, the first ROW is put together from the first one of either FORMULA.
    firsts = first_numbers(formula, weight, shared)
    others = first_numbers(other, weight, shared)
    found = []
    for (part, truth), number in firsts.items():
        against = others.get((part, 1 - truth))
        if against is not None:
            found.append(number | against)
    if not found:
        return None
    first = min(found, key=place_in_order)
    return tuple([name for name in names if first & weight[name]])


def joined(word, formulas, *, empty=YES):
    """FORMULAS, joined by a word from the left; empty if there are none."""
    if not isinstance(word, str) or word not in ("and", "or", "xor"):
        raise BadQuestion("joined by another word than and, or, xor")
    if not isinstance(formulas, tuple):
        raise BadQuestion("no tuple of formulas")
    whole = formulas[0] if formulas else empty
    for formula in formulas[1:]:
        whole = (word, whole, formula)
    need_formula(whole)
    need_formula(empty)
    return whole
