"""BINDINGS: NAMES that stand for functions of the NAMES of an ORDER, with ROOM for so many KNOTS."""

from knotweb.errors import BadQuestion, HangsOn, NoSuch, TooGreat
from knotweb.formulas import MOST_NAMES, name_in, parts_met
from knotweb.knots import knots_of
from knotweb.reordering import onto
from knotweb.sifting import Sifting
from knotweb.truths import Truths


class BoundTruths(Truths):
    """Works out FORMULAS over the NAMES of an ORDER, where a ("name", NAME) that is bound has truths of its own."""

    def __init__(self, order, bound):
        super().__init__(order)
        for name, truths in bound.items():
            self.having[name] = truths


class Bindings:
    """ORDER, ROOM and bound functions as they come to be by deeds, and the steps that lead back from there.

    A deed that is refused may have gone some of its way: who does it takes back all its steps. Of
    refusals made of a text the text is what a desk answers.
    """

    def __init__(self, order, room):
        self.names = tuple(order)
        self.most = room
        self.functions = {}
        self.knots = knots_of({}, len(order))
        self.steps = []

    # What leads from one way to stand to another one.

    def hold(self, name, truths):
        """A NAME stands for a function from here on, or for none; the old one goes ahead."""
        if name in self.functions:
            self.knots.want(self.functions.pop(name), -1)
        if truths is not None:
            self.functions[name] = truths
            self.knots.want(truths, 1)

    def stand_by(self, order):
        """From here on the ORDER is this one."""
        self.functions = onto(self.functions, self.names, order)
        self.knots = knots_of(self.functions, len(order))
        self.names = tuple(order)

    def go_on(self, word, name, worth):
        """Takes a step, and puts down the one that leads back."""
        if word == "hold":
            self.steps.append((word, name, self.functions.get(name)))
        else:
            self.steps.append((word, name, self.names if word == "stand" else self.most))
        self.step(word, name, worth)

    def step(self, word, name, worth):
        """Takes a step."""
        if word == "hold":
            self.hold(name, worth)
        elif word == "stand":
            self.stand_by(worth)
        else:
            self.most = worth

    def settle(self):
        """Tells the steps that lead back, a tuple, and begins anew with these."""
        steps = tuple(self.steps)
        self.steps = []
        return steps

    def go_back(self, steps):
        """Takes steps back, the last one first."""
        for word, name, worth in steps[::-1]:
            self.step(word, name, worth)

    # Questions.

    def bound_in(self, formula):
        """The functions of the NAMES in a FORMULA that are bound, all others being of the ORDER."""
        bound = {}
        for part in parts_met(formula):
            name = name_in(part)
            if name is None or name in self.names:
                continue
            # Behind "some", "all" and "put" a function can't stand for a NAME.
            if part[0] != "name" or name not in self.functions:
                raise NoSuch(name)
            bound[name] = self.functions[name]
        return bound

    def truths_of(self, formula):
        """The truths of a FORMULA in which each ("name", NAME) may be bound."""
        return BoundTruths(self.names, self.bound_in(formula)).truths_of(formula)

    def sifted(self):
        """A Sifting of all functions at each NAME once, which changes nothing here."""
        sifting = Sifting(self.names, list(self.functions.values()))
        sifting.sift_all(self.knots.counts())
        return sifting

    # Deeds.

    def bind(self, name, formula):
        """A NAME stands for a FORMULA's function; where there's no room for it, the whole is sifted."""
        if name in self.names:
            raise BadQuestion(f"there {name}")
        self.go_on("hold", name, self.truths_of(formula))
        if self.knots.total > self.most:
            sifting = self.sifted()
            if sifting.fewest > self.most:
                raise TooGreat(sifting.fewest)
            self.go_on("stand", None, sifting.names)

    def free(self, name):
        """A NAME stands for nothing any longer."""
        if name not in self.functions:
            raise NoSuch(name)
        self.go_on("hold", name, None)

    def take_order(self, order):
        """Another ORDER, perhaps of other NAMES."""
        for name in order:
            if name in self.functions:
                raise BadQuestion(f"there {name}")
        for name, many in zip(self.names, self.knots.counts()):
            if many > 0 and name not in order:
                raise HangsOn(name)
        self.go_on("stand", None, order)
        if self.knots.total > self.most:
            raise TooGreat(self.knots.total)

    def sift(self):
        """The whole is sifted."""
        self.go_on("stand", None, self.sifted().names)

    def add_name(self, name):
        """A NAME more for the ORDER, the lowest one."""
        if name in self.names or name in self.functions:
            raise BadQuestion(f"there {name}")
        if len(self.names) == MOST_NAMES:
            raise BadQuestion("too many")
        self.go_on("stand", None, (*self.names, name))

    def set_room(self, room):
        """There is ROOM for so many KNOTS, not fewer than there are."""
        if room < self.knots.total:
            raise BadQuestion(f"full {self.knots.total}")
        self.go_on("room", None, room)

    def take(self, deed):
        """Does a deed of a SESSION."""
        word = deed[0]
        if word == "bind":
            self.bind(deed[1], deed[2])
        elif word == "free":
            self.free(deed[1])
        elif word == "order":
            self.take_order(deed[1])
        elif word == "sift":
            self.sift()
        elif word == "name":
            self.add_name(deed[1])
        else:
            self.set_room(deed[1])

    # The whole as a thing.

    def twin(self):
        """Another one that stands likewise, with no steps to lead back."""
        other = Bindings(self.names, self.most)
        other.functions = dict(self.functions)
        other.knots = knots_of(other.functions, len(self.names))
        return other

    def is_like(self, other):
        """Whether ORDER, ROOM and functions are the same."""
        return self.names == other.names and self.most == other.most and self.functions == other.functions
