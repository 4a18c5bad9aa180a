"""Truths by one ORDER made of those by another one."""

from knotweb.truths import Truths


def steps_between(order, other):
    """What makes of truths by an ORDER those by another one of the same NAMES, step by step.

    At each step two NAMES change places: (SHIFT, MASK), the bits at MASK and those SHIFT above them.
    """
    names = list(order)
    truths = Truths(names)
    weights = list(truths.weight.values())
    havings = list(truths.having.values())
    steps = []
    for at, name in enumerate(other):
        place = names.index(name)
        if place != at:
            names[at], names[place] = name, names[at]
            mask = havings[place] & (truths.whole ^ havings[at])
            steps.append((weights[at] - weights[place], mask))
    return steps


def stepped(truths, steps):
    """What truths come to by steps_between."""
    for shift, mask in steps:
        moved = (truths ^ truths >> shift) & mask
        truths ^= moved | moved << shift
    return truths


def by_order(functions, order, other):
    """Functions, a dict from anything to truths by an ORDER, by another one of the same NAMES."""
    steps = steps_between(order, other)
    return {handle: stepped(truths, steps) for handle, truths in functions.items()}


def with_top(functions, many):
    """Functions of so many NAMES as those of one more, topmost, on which none hangs."""
    width = 1 << many
    return {handle: truths << width | truths for handle, truths in functions.items()}


def without_top(functions, many):
    """Functions of so many NAMES and a topmost one, on which none hangs, without that one."""
    mask = (1 << (1 << many)) - 1
    return {handle: truths & mask for handle, truths in functions.items()}


def onto(functions, order, other):
    """Functions, a dict from anything to truths by an ORDER, by another one.

    It may have NAMES more, and lack such on which no function hangs.
    """
    lost = [name for name in order if name not in other]
    names = [name for name in order if name in other]
    functions = without_top(by_order(functions, order, (*lost, *names)), len(names))
    for name in other:
        if name not in order:
            functions = with_top(functions, len(names))
            names = [name, *names]
    return by_order(functions, names, other)
