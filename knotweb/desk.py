"""A desk: a SESSION, told and asked by lines of words."""

from knotweb.errors import BadFormula, BadQuestion, BadText, HangsOn, NoSuch, TooGreat
from knotweb.formulatexts import read_formula
from knotweb.leastorders import MOST_LEAST_NAMES
from knotweb.lines import NoLine, read_line
from knotweb.sessions import Session
from knotweb.tabletexts import hung_in, table_rows, table_truths
from knotweb.truths import Truths
from knotweb.weighing import numbers_from, weighed
from knotweb.widths import Widths

HALF = (1, 2)


def names_text(names):
    """NAMES as words."""
    return " ".join(names) if names else "none"


def row_text(row):
    """A ROW as words, or None, of no ROW."""
    if row is None:
        return "none"
    return " ".join(row) if row else "empty"


def deed_read(deed):
    """A deed of a line with its text read, if there is one."""
    return (deed[0], deed[1], read_formula(deed[2])) if deed[0] == "bind" else deed


class Desk:
    """Whatever is refused is answered too, and changes nothing."""

    def __init__(self):
        self._session = Session(())

    def say(self, line):
        """The answer to a line, a thing of any kind."""
        if not isinstance(line, str):
            return "no line"
        try:
            return self._answer(read_line(line))
        except NoLine:
            return "no line"
        except BadText as unread:
            return f"no formula {unread.place}"
        except BadFormula:
            return "great"
        except NoSuch as lacking:
            return f"no such {lacking.name}"
        except HangsOn as hanging:
            return f"hangs {hanging.name}"
        except TooGreat as great:
            return f"full {great.knots}"
        except BadQuestion as question:
            # A session's refusals of this kind have a desk's answer as their text.
            return str(question)

    def _answer(self, told):
        """The answer to what a line tells."""
        word = told[0]
        if word == "do":
            self._session.do(deeds=tuple([deed_read(deed) for deed in told[1]]))
            return "done"
        if word == "undo":
            self._session.undo()
            return "done"
        if word == "knots":
            return str(self._session.many())
        if word == "names":
            return names_text(self._session.order())
        if word == "bound":
            return names_text(self._session.names_bound())
        if word == "same":
            return self._same(read_formula(told[1]), read_formula(told[2]))
        table = self._session.table(read_formula(told[1]))
        if word == "show":
            return " ; ".join(table_rows(self._session.order(), table))
        if word == "least":
            return self._least(table)
        return self._of_rows(word, table, told)

    def _same(self, formula, other):
        """Of "same"."""
        at = Truths(self._session.order())
        truths = table_truths(self._session.table(formula), at)
        apart = truths ^ table_truths(self._session.table(other), at)
        return f"no {row_text(at.first_at(apart))}" if apart else "yes"

    def _least(self, table):
        """Of "least"."""
        names = hung_in(table)
        if len(names) > MOST_LEAST_NAMES:
            return "great"
        order, many = Widths(names, table_truths(table, Truths(names))).least_order()
        return " ".join(["order", *order, str(many)])

    def _of_rows(self, word, table, told):
        """Of what goes by the ROWS of all NAMES of the ORDER."""
        at = Truths(self._session.order())
        truths = table_truths(table, at)
        if word == "row":
            return row_text(at.first_at(truths))
        if word == "count":
            return str(len(at.rows_at(truths)))
        return self._share(truths, told[2])

    def _share(self, truths, chances):
        """Of "share"."""
        order = self._session.order()
        for name in chances:
            if name not in order:
                raise NoSuch(name)
        whole = {name: chances.get(name, HALF) for name in order}
        up, down = weighed(numbers_from(truths, 1 << len(order)), order, whole)
        return f"{up}/{down}"
