"""Things that stand within one another, as MEASURES and SAYINGS do."""

MOST_THINGS = 20
MOST_WITHIN = 5


def first_wrong(thing, inner_of):
    """The WAY to the first thing, each met ahead of its own, that mayn't stand where it stands; None without.

    inner_of tells the things, a tuple, that stand in a thing of any kind itself, None where it mayn't stand.
    """
    many = 0
    # A list of what is still to be met instead of calls within calls: things may be of any depth.
    waiting = [((), thing)]
    while waiting:
        way, part = waiting.pop()
        many += 1
        if many > MOST_THINGS or len(way) > MOST_WITHIN:
            return way
        inner = inner_of(part)
        if inner is None:
            return way
        for at in reversed(range(len(inner))):
            waiting.append(((*way, at), inner[at]))
    return None
