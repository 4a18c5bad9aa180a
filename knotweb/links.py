"""How the KNOTS of a TABLE or a SHEET hang together; numbers below 0 are no KNOTS."""


def is_pair_with(thing, most):
    """Whether a thing of any kind is a pair with a tuple of at most so many."""
    if not isinstance(thing, tuple) or len(thing) != 2:
        return False
    return isinstance(thing[1], tuple) and len(thing[1]) <= most


def wrong_link(order, edge, knots, links):
    """The first place at which KNOTS, each well formed by itself, aren't as they should be together.

    The edge is the number to which the whole goes, links are for each KNOT the two numbers
    to which it goes. None if there is no such place.
    """
    number = not_beneath(order, knots, links)
    if number is not None:
        return ("beneath", number)
    number = standing_twice(knots)
    if number is not None:
        return ("twice", number)
    number = not_as_met(edge, links)
    if number is not None:
        return ("met", number)
    return None


def not_beneath(order, knots, links):
    """The first KNOT that goes to one whose NAME isn't beneath its own, None without."""
    levels = [order.index(knot[0]) for knot in knots]
    for number, link in enumerate(links):
        for other in link:
            if other >= 0 and levels[other] <= levels[number]:
                return number
    return None


def standing_twice(knots):
    """The first KNOT that stands ahead too, None without."""
    seen = set()
    for number, knot in enumerate(knots):
        if knot in seen:
            return number
        seen.add(knot)
    return None


def not_as_met(edge, links):
    """The first KNOT that isn't the one met so many places from the first, None without."""
    met = []
    seen = set()
    waiting = [edge]
    while waiting:
        number = waiting.pop()
        if number >= 0 and number not in seen:
            seen.add(number)
            met.append(number)
            first, second = links[number]
            waiting.append(second)
            waiting.append(first)
    for at in range(len(links)):
        if at == len(met) or met[at] != at:
            return at
    return None
