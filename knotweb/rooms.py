"""The ROOM that a WEB has for KNOTS."""

from knotweb.errors import BadQuestion
from knotweb.kinds import is_number
from knotweb.tables import MOST_KNOTS


def need_room(thing):
    """The thing itself, if it can be a ROOM."""
    if not is_number(thing, 0, MOST_KNOTS):
        raise BadQuestion("no room")
    return thing
