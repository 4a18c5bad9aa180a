"""A desk's lines: which words they have, and what they are made of."""

from knotweb.deeds import MOST_DEEDS
from knotweb.errors import BadOrder
from knotweb.formulas import is_name, need_order
from knotweb.numerals import is_numeral
from knotweb.tables import MOST_KNOTS

# Questions that have nothing behind their word, those that have just a FORMULA, and those that may have two parts.
BARE = ("undo", "knots", "names", "bound")
ASKING = ("show", "count", "row", "least")
PARTED = ("same", "share")

ROOM_FIGURES = 4
CHANCE_FIGURES = 3


class NoLine(ValueError):
    """What was said is no line by its words."""


def name_from(words, at):
    """The NAME at a place of a line's words."""
    if not is_name(words[at]):
        raise NoLine("no name")
    return words[at]


def room_from(word):
    """The ROOM that a word tells."""
    if not is_numeral(word, ROOM_FIGURES) or int(word) > MOST_KNOTS:
        raise NoLine("no room")
    return int(word)


def order_from(words):
    """The ORDER that words tell."""
    try:
        return need_order(tuple(words))
    except BadOrder:
        raise NoLine("no order") from None


def deed_from(part):
    """The deed that a part of a line tells, the FORMULA in it a text."""
    words = part.split(" ")
    word = words[0]
    if word == "bind" and len(words) > 3 and words[2] == "=":
        return (word, name_from(words, 1), " ".join(words[3:]))
    if word == "order":
        return (word, order_from(words[1:]))
    if word == "sift" and len(words) == 1:
        return (word,)
    if word in ("name", "free") and len(words) == 2:
        return (word, name_from(words, 1))
    if word == "room" and len(words) == 2:
        return (word, room_from(words[1]))
    raise NoLine("no deed")


def chance_from(word):
    """The pair that a word tells as UP/DOWN."""
    figures = word.split("/")
    if len(figures) != 2:
        raise NoLine("no chance")
    for part in figures:
        if not is_numeral(part, CHANCE_FIGURES):
            raise NoLine("no chance")
    up, down = [int(part) for part in figures]
    if down == 0 or up > down:
        raise NoLine("no chance")
    return (up, down)


def chances_from(text):
    """The CHANCES that a text tells, a dict from NAMES as they stand."""
    words = text.split(" ")
    if len(words) % 2 == 1:
        raise NoLine("a name without a chance")
    chances = {}
    for at in range(0, len(words), 2):
        name = name_from(words, at)
        if name in chances:
            raise NoLine("a name told twice")
        chances[name] = chance_from(words[at + 1])
    return chances


def parted_question(word, parts):
    """The question of a word that may have two parts, texts."""
    if word == "share":
        return (word, parts[0], chances_from(parts[1]) if len(parts) == 2 else {})
    return (word, *parts) if len(parts) == 2 else None


def question_from(line):
    """The question that a line asks, the FORMULAS in it texts; None of one that is none by its words."""
    if line in BARE:
        return (line,)
    # A FORMULA without words still has a blank ahead: a word by itself has none.
    word, blank, text = line.partition(" ")
    if blank and word in ASKING:
        return (word, text)
    if blank and word in PARTED and line.count(" , ") <= 1:
        return parted_question(word, text.split(" , "))
    return None


def read_line(line):
    """What a line tells: ("do", DEEDS) or a question, a tuple that begins with another word."""
    parts = line.split(" ; ")
    question = question_from(line) if len(parts) == 1 else None
    if question is not None:
        return question
    if len(parts) > MOST_DEEDS:
        raise NoLine("too many deeds")
    return ("do", tuple([deed_from(part) for part in parts]))
