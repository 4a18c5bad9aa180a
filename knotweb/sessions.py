"""SESSIONS: BINDINGS kept over calls, several deeds done all or none, and taken back."""

from knotweb.bindings import Bindings
from knotweb.deeds import need_deeds
from knotweb.errors import BadDeed, BadQuestion, HangsOn, NoSuch, TooGreat
from knotweb.formulas import need_formula, need_order
from knotweb.knots import Tabling
from knotweb.rooms import need_room
from knotweb.tables import MOST_KNOTS


class Session:
    """Of each do that stands the steps are kept that lead back from it."""

    def __init__(self, order, *, room=MOST_KNOTS):
        need_order(order)
        self._bindings = Bindings(order, need_room(room))
        self._done = []
        self._entries = []

    def do(self, *, deeds):
        """Does deeds, all or none."""
        number = len(self._entries) // 2 + 1
        self._entries.append(("begun", number))
        at = -1
        try:
            need_deeds(deeds)
            for at, deed in enumerate(deeds):
                self._bindings.take(deed)
        except (BadDeed, BadQuestion, NoSuch, HangsOn, TooGreat):
            self._bindings.go_back(self._bindings.settle())
            self._entries.append(("refused", number, at))
            raise
        self._done.append(self._bindings.settle())
        self._entries.append(("done", number))

    def names_bound(self):
        """The NAMES that are bound, rising, a list."""
        return sorted(self._bindings.functions)

    def bound(self):
        """For each NAME that is bound, rising, its TABLE by the ORDER."""
        bindings = self._bindings
        return {name: Tabling(bindings.names, bindings.functions[name]).table() for name in self.names_bound()}

    def order(self):
        """The ORDER."""
        return self._bindings.names

    def room(self):
        """The ROOM."""
        return self._bindings.most

    def many(self):
        """How many KNOTS all BINDINGS have together."""
        return self._bindings.knots.total

    def is_same(self, formula, other):
        """Whether two FORMULAS, where a ("name", NAME) may be bound, are yes at the same ROWS."""
        need_formula(formula)
        need_formula(other)
        return self._bindings.truths_of(formula) == self._bindings.truths_of(other)

    def table(self, formula):
        """The TABLE by the ORDER of a FORMULA, where a ("name", NAME) may be bound."""
        return Tabling(self._bindings.names, self._bindings.truths_of(formula)).table()

    def undo(self):
        """Takes the last do back that still stands."""
        if not self._done:
            raise BadQuestion("nothing")
        self._bindings.go_back(self._done.pop())

    def undone(self):
        """How many can be taken back."""
        return len(self._done)

    def log(self):
        """Each do begun, and right behind it how it ended."""
        return list(self._entries)

    def busy(self):
        """Whether a do is being done: never, as each has ended when it's asked."""
        return False

    def copy(self):
        """Another SESSION that stands likewise and goes on by itself."""
        other = Session(self._bindings.names, room=self._bindings.most)
        other._bindings = self._bindings.twin()
        other._done = list(self._done)
        other._entries = list(self._entries)
        return other

    def __len__(self):
        return len(self._bindings.functions)

    def __eq__(self, other):
        return isinstance(other, Session) and self._bindings.is_like(other._bindings)

    def __str__(self):
        return f"{len(self._bindings.functions)} bound, {self._bindings.knots.total} knots"

    def __repr__(self):
        return f"Session({str(self)})"
