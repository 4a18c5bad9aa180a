"""TABLES as texts, and taken into WEBS."""

from knotweb.errors import BadOrder, BadTable, BadText, NoSuch
from knotweb.formulas import is_name, need_order
from knotweb.knots import truths_from
from knotweb.numerals import is_numeral
from knotweb.tables import need_table
from knotweb.truths import Truths

MOST_TABLE_SIGNS = 60000
MOST_FIGURES = 4

# The EDGES that go to no KNOT, by their words.
ENDS = {"yes": (-1, False), "no": (-1, True)}


def edge_word(edge):
    """An EDGE as a word."""
    number, flip = edge
    if number < 0:
        return "no" if flip else "yes"
    return f"!{number}" if flip else f"{number}"


def table_rows(order, table):
    """The rows of a TABLE's text, a list."""
    edge, knots = table
    rows = [" ".join(["order", *order]), f"edge {edge_word(edge)}"]
    for name, high, low in knots:
        rows.append(f"knot {name} {edge_word(high)} {edge_word(low)}")
    return rows


def table_text(order, table):
    """The text of a TABLE by an ORDER."""
    need_table(order, table)
    return "\n".join(table_rows(order, table))


def edge_from(word):
    """The EDGE that a word tells, whatever it goes to; None of one that tells none."""
    if word in ENDS:
        return ENDS[word]
    flip = word.startswith("!")
    figures = word[1:] if flip else word
    return (int(figures), flip) if is_numeral(figures, MOST_FIGURES) else None


def order_from(row):
    """The ORDER that a row tells, None of one that tells none."""
    words = row.split(" ")
    order = tuple(words[1:])
    if words[0] != "order":
        return None
    try:
        return need_order(order)
    except BadOrder:
        return None


def first_edge(row):
    """The EDGE that the row behind the ORDER tells, None of one that tells none."""
    words = row.split(" ")
    return edge_from(words[1]) if len(words) == 2 and words[0] == "edge" else None


def knot_from(row):
    """The KNOT that a row tells, of any NAME; None of one that tells none."""
    words = row.split(" ")
    if len(words) != 4 or words[0] != "knot" or not is_name(words[1]):
        return None
    high = edge_from(words[2])
    low = edge_from(words[3])
    return None if high is None or low is None else (words[1], high, low)


def read_row(row, at):
    """What a row tells by its place; None of one that can't stand there by its form."""
    if at == 0:
        return order_from(row)
    return first_edge(row) if at == 1 else knot_from(row)


def row_of(place):
    """The row in which what is no TABLE at a place stands."""
    return 1 if place in ((), ("edge",)) else place[-1] + 2


def read_table(text):
    """The ORDER and the TABLE that a text tells."""
    if not isinstance(text, str) or len(text) > MOST_TABLE_SIGNS:
        raise BadText(-1)
    told = []
    for at, row in enumerate(text.split("\n")):
        thing = read_row(row, at)
        if thing is None:
            raise BadText(at)
        told.append(thing)
    if len(told) < 2:
        raise BadText(len(told))
    order, edge, *knots = told
    table = (edge, tuple(knots))
    try:
        need_table(order, table)
    except BadTable as error:
        raise BadText(row_of(error.place)) from None
    return (order, table)


def hung_in(table):
    """The NAMES, rising, on which a TABLE's function HANGS, a list."""
    # Each of its KNOTS is met, and hangs on its own NAME.
    return sorted(set([knot[0] for knot in table[1]]))


def table_truths(table, at):
    """The truths of a TABLE's function by what at works out, all NAMES on which it HANGS among its own."""
    edge, knots = table
    return truths_from(edge, knots, at, {})


def taken(web, order, table):
    """A HANDLE of a WEB for a TABLE's function."""
    need_table(order, table)
    own = web.order()
    for name in hung_in(table):
        if name not in own:
            raise NoSuch(name)
    at = Truths(own)
    return web.of_rows(tuple(at.rows_at(table_truths(table, at))))
