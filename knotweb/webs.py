"""WEBS: functions of the NAMES of an ORDER under HANDLES, with ROOM for so many KNOTS."""

from knotweb.diaries import Diary
from knotweb.errors import BadQuestion, HangsOn, NoSuch, TooGreat
from knotweb.formulas import MOST_NAMES, is_name, names_in, need_order
from knotweb.kinds import is_name_of, is_number, is_row_of, wrong_row
from knotweb.knots import Tabling, formula_from, knots_of
from knotweb.reordering import by_order, with_top, without_top
from knotweb.rooms import need_room
from knotweb.sifting import Sifting
from knotweb.tables import MOST_KNOTS
from knotweb.truths import Truths

MOST_ROWS = 1024


class Web:
    """Each HANDLE's function is kept as its truths by the ORDER, and the KNOTS of all are kept count of.

    Every deed is done within the diary. What it refuses it refuses ahead of any change, but
    for a HANDLE that there is no room for: that one is made, and goes again.
    """

    def __init__(self, order, *, room=MOST_KNOTS):
        need_order(order)
        self._room = need_room(room)
        self._last = 0
        self._diary = Diary()
        self._stand(order, {}, knots_of({}, len(order)))

    # What the deeds and the questions below are made of.

    def _stand(self, order, functions, knots):
        """From here on the ORDER is this one, and these are the HANDLES' functions and KNOTS by it."""
        self._order = tuple(order)
        self._functions = functions
        self._knots = knots
        self._truths = Truths(order)

    def _function(self, h):
        """The truths of what a HANDLE stands for."""
        if not is_number(h, 1, self._last) or h not in self._functions:
            raise NoSuch(h)
        return self._functions[h]

    def _need_name(self, name):
        """Refuses what is no NAME of ORDER."""
        if not is_name_of(self._order, name):
            raise NoSuch(name)

    def _added(self, truths):
        """A new HANDLE of a function; where there's no room for it as it is, the whole is sifted."""
        handle = self._last + 1
        self._functions[handle] = truths
        self._knots.want(truths, 1)
        if self._knots.total > self._room:
            sifting = self._sifting()
            sifting.sift_all(self._knots.counts())
            if sifting.fewest > self._room:
                self._drop(handle)
                raise TooGreat(sifting.fewest)
            self._reorder(sifting.names, MOST_KNOTS)
        self._last = handle
        return handle

    def _drop(self, handle):
        """A HANDLE goes, and with it all KNOTS that nothing else wants."""
        self._knots.want(self._functions.pop(handle), -1)

    def _sifting(self):
        """A Sifting of all functions, which changes nothing here."""
        return Sifting(self._order, list(self._functions.values()))

    def _reorder(self, order, room):
        """Takes another ORDER of the same NAMES, if there's room by it; tells how many KNOTS there are."""
        functions = by_order(self._functions, self._order, order)
        knots = knots_of(functions, len(order))
        if knots.total > room:
            raise TooGreat(knots.total)
        self._stand(order, functions, knots)
        return knots.total

    def _quantified(self, word, h, names):
        """What "some" or "all" of each of a tuple of NAMES makes of a HANDLE's function."""
        truths = self._function(h)
        if not isinstance(names, tuple):
            raise BadQuestion("no tuple of names")
        for name in names:
            self._need_name(name)
        for name in self._order:
            if name in names:
                truths = self._truths.quantified(word, name, truths)
        return truths

    # Deeds that make a HANDLE.

    def make(self, formula):
        """A HANDLE of a FORMULA's function."""
        with self._diary:
            for name in names_in(formula):
                self._need_name(name)
            return self._added(self._truths.truths_of(formula))

    def of_rows(self, rows):
        """A HANDLE of the function that is yes at just these ROWS."""
        with self._diary:
            if not isinstance(rows, tuple) or wrong_row(self._order, rows) is not None:
                raise BadQuestion("no tuple of rows of names of the order, in their order")
            return self._added(self._truths.at_rows(rows))

    def contrary(self, h):
        """A HANDLE of "not"."""
        with self._diary:
            return self._added(self._truths.whole ^ self._function(h))

    def both(self, h, k):
        """A HANDLE of "and"."""
        with self._diary:
            return self._added(self._function(h) & self._function(k))

    def either(self, h, k):
        """A HANDLE of "or"."""
        with self._diary:
            return self._added(self._function(h) | self._function(k))

    def unlike(self, h, k):
        """A HANDLE of "xor"."""
        with self._diary:
            return self._added(self._function(h) ^ self._function(k))

    def choice(self, h, k, l):
        """A HANDLE of "if"."""
        with self._diary:
            truths = self._truths.choice(self._function(h), self._function(k), self._function(l))
            return self._added(truths)

    def some(self, h, names):
        """A HANDLE of "some" of each of a tuple of NAMES."""
        with self._diary:
            return self._added(self._quantified("some", h, names))

    def all_of(self, h, names):
        """A HANDLE of "all" of each of a tuple of NAMES."""
        with self._diary:
            return self._added(self._quantified("all", h, names))

    def put(self, h, name, k):
        """A HANDLE of h's function with k's in the place of a NAME."""
        with self._diary:
            truths = self._function(h)
            self._need_name(name)
            return self._added(self._truths.replaced(name, self._function(k), truths))

    def fixed(self, h, name, truth):
        """A HANDLE of what h's function comes to where a NAME is as told."""
        with self._diary:
            truths = self._function(h)
            self._need_name(name)
            if not isinstance(truth, bool):
                raise BadQuestion("no truth")
            at = self._truths
            return self._added(at.where_yes(name, truths) if truth else at.where_no(name, truths))

    def within(self, h, c):
        """A HANDLE of what h's function comes to within c's, which is yes somewhere."""
        with self._diary:
            truths = self._function(h)
            there = self._function(c)
            if there == 0:
                raise BadQuestion("within what is yes nowhere")
            return self._added(self._truths.nearest(truths, there))

    def again(self, h):
        """Another HANDLE of the same function."""
        with self._diary:
            return self._added(self._function(h))

    # Deeds by which something goes.

    def let_go(self, h):
        """The HANDLE is there no longer."""
        with self._diary:
            self._function(h)
            self._drop(h)

    def collect(self):
        """How many KNOTS went that nothing wants."""
        with self._diary:
            # None is ever left: each goes with the last HANDLE or KNOT that wanted it.
            return 0

    # Deeds that change ORDER, NAMES or ROOM.

    def swap(self, level):
        """The NAMES at a place and the next one change places; tells how many KNOTS there are then."""
        with self._diary:
            if not is_number(level, 0, len(self._order) - 2):
                raise BadQuestion("no place with a next one")
            upper, lower = self._order[level:level + 2]
            order = (*self._order[:level], lower, upper, *self._order[level + 2:])
            return self._reorder(order, self._room)

    def move(self, name, place):
        """A NAME goes to a place, the others stay as they are; tells how many KNOTS there are then."""
        with self._diary:
            self._need_name(name)
            if not is_number(place, 0, len(self._order) - 1):
                raise BadQuestion("no place")
            others = [other for other in self._order if other != name]
            return self._reorder((*others[:place], name, *others[place:]), self._room)

    def to_order(self, order):
        """Takes an ORDER of the same NAMES; tells how many KNOTS there are then."""
        with self._diary:
            need_order(order)
            for name in self._order:
                if name not in order:
                    raise NoSuch(name)
            for name in order:
                self._need_name(name)
            return self._reorder(order, self._room)

    def sift(self, name):
        """Moves a NAME to where there are the fewest KNOTS; tells the place."""
        with self._diary:
            self._need_name(name)
            sifting = self._sifting()
            sifting.sift(name)
            self._reorder(sifting.names, MOST_KNOTS)
            return self._order.index(name)

    def sift_all(self):
        """Sifts at each NAME once; tells the ORDER then."""
        with self._diary:
            sifting = self._sifting()
            sifting.sift_all(self._knots.counts())
            self._reorder(sifting.names, MOST_KNOTS)
            return self._order

    def add_name(self, name, *, place=None):
        """One NAME more for ORDER, at a place, or the lowest one."""
        with self._diary:
            many = len(self._order)
            if not is_name(name) or name in self._order or many == MOST_NAMES:
                raise BadQuestion("no name that can be one more")
            if place is not None and not is_number(place, 0, many):
                raise BadQuestion("no place")
            at = many if place is None else place
            topped = (name, *self._order)
            order = (*self._order[:at], name, *self._order[at:])
            functions = by_order(with_top(self._functions, many), topped, order)
            self._stand(order, functions, knots_of(functions, many + 1))

    def drop_name(self, name):
        """A NAME goes on which no HANDLE's function hangs."""
        with self._diary:
            self._need_name(name)
            if self._knots.counts()[self._order.index(name)] > 0:
                raise HangsOn(name)
            order = tuple([other for other in self._order if other != name])
            topped = by_order(self._functions, self._order, (name, *order))
            functions = without_top(topped, len(order))
            self._stand(order, functions, knots_of(functions, len(order)))

    def set_room(self, room):
        """There is ROOM for so many KNOTS, not fewer than there are."""
        with self._diary:
            if need_room(room) < self._knots.total:
                raise BadQuestion("less room than there are knots")
            self._room = room

    # Questions about the whole.

    def kept(self):
        """How many KNOTS are kept, wanted or not."""
        return self._knots.total

    def many(self):
        """How many KNOTS all HANDLES have together."""
        return self._knots.total

    def by_name(self):
        """For each NAME, in ORDER, how many KNOTS have it."""
        return dict(zip(self._order, self._knots.counts()))

    def order(self):
        """The ORDER."""
        return self._order

    def room(self):
        """The ROOM."""
        return self._room

    def handles(self):
        """The HANDLES, rising."""
        return sorted(self._functions)

    def deeds(self):
        """How many deeds were begun."""
        return self._diary.begun

    def log(self):
        """Each deed begun, and right behind it how it ended."""
        return list(self._diary.entries)

    def busy(self):
        """Whether a deed is being done."""
        return self._diary.open_now

    # Questions about HANDLES.

    def table(self, h):
        """The TABLE of a HANDLE's function by the ORDER."""
        return Tabling(self._order, self._function(h)).table()

    def formula(self, h):
        """The FORMULA that goes as a HANDLE's TABLE goes."""
        edge, knots = self.table(h)
        return formula_from(edge, knots, {})

    def is_yes(self, h, row):
        """Whether a HANDLE's function is yes at a ROW of NAMES of ORDER."""
        truths = self._function(h)
        if not is_row_of(self._order, row):
            raise BadQuestion("no row of names of the order")
        return truths >> self._truths.row_number(row) & 1 == 1

    def is_one(self, h, k):
        """Whether two HANDLES stand for the same function."""
        return self._function(h) == self._function(k)

    def implies(self, h, k):
        """Whether k's function is yes wherever h's is."""
        truths = self._function(h)
        return truths & self._function(k) == truths

    def apart_at(self, h, k):
        """The first ROW at which just one of two HANDLES' functions is yes, None without."""
        return self._truths.first_at(self._function(h) ^ self._function(k))

    def hangs_on(self, h):
        """The NAMES, in ORDER, on which a HANDLE's function hangs."""
        return self._truths.hung_on(self._function(h))

    def many_rows(self, h):
        """At how many ROWS of NAMES of ORDER a HANDLE's function is yes."""
        truths = self._function(h)
        digits = f"{truths:b}"
        return digits.count("1")

    def first_row(self, h):
        """The first ROW at which a HANDLE's function is yes, None without."""
        return self._truths.first_at(self._function(h))

    def rows(self, h, *, most=MOST_ROWS):
        """The first so many ROWS at which a HANDLE's function is yes."""
        truths = self._function(h)
        if not is_number(most, 0, MOST_ROWS):
            raise BadQuestion("no number of rows that can be told")
        return self._truths.rows_at(truths)[:most]

    def size(self, h):
        """How many KNOTS a HANDLE's function has by itself."""
        return len(self.table(h)[1])

    # The whole as a thing.

    def copy(self):
        """Another WEB that stands likewise and goes on by itself."""
        other = Web(self._order, room=self._room)
        other._last = self._last
        other._diary = self._diary.twin()
        functions = dict(self._functions)
        other._stand(self._order, functions, knots_of(functions, len(self._order)))
        return other

    def __len__(self):
        return len(self._functions)

    def __eq__(self, other):
        return isinstance(other, Web) and self._order == other._order and self._functions == other._functions

    def __str__(self):
        return f"{len(self._functions)} handles, {self._knots.total} knots"

    def __repr__(self):
        return f"Web({str(self)})"
