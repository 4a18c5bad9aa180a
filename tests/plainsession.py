"""Plain doubles of SESSIONS and desks: BINDINGS as sets of rows, each do on a copy of the whole."""

import re
from fractions import Fraction

from tests.plain import PlainReader, is_plain_name, met, plain_refusal, plain_yes
from tests.plainweb import (
    Refusal, hangs, many_knots, number_in, row_key, rows_by, sifted_whole, table, with_it,
)


def own_row(row, order):
    """The names of a row that are in an order, as a row."""
    return tuple(sorted(one for one in row if one in order))


def bound_yes(formula, row, order, functions):
    """Whether a formula is yes at a row, where a name that is bound stands for that function."""
    word, *behind = formula
    if word == "name" and behind[0] in functions:
        return own_row(row, order) in functions[behind[0]]
    if word in ("some", "all"):
        both = [bound_yes(behind[1], with_it(row, behind[0], truth), order, functions) for truth in (True, False)]
        return any(both) if word == "some" else all(both)
    if word == "put":
        truth = bound_yes(behind[1], row, order, functions)
        return bound_yes(behind[2], with_it(row, behind[0], truth), order, functions)
    if word in ("yes", "no", "name"):
        return plain_yes(formula, row)
    truths = [bound_yes(part, row, order, functions) for part in behind]
    return plain_yes((word, *[("yes",) if truth else ("no",) for truth in truths]), ())


def is_plain_order(thing):
    return (type(thing) is tuple and len(thing) <= 10 and all(map(is_plain_name, thing))
            and len(set(thing)) == len(thing))


FORMS = {
    "bind": (is_plain_name, lambda thing: plain_refusal(thing) is None),
    "free": (is_plain_name,),
    "order": (is_plain_order,),
    "sift": (),
    "name": (is_plain_name,),
    "room": (lambda thing: number_in(thing, 0, 2000),),
}


def deed_form(thing):
    """Whether a thing is a deed by its form."""
    if type(thing) is not tuple or not thing or type(thing[0]) is not str or thing[0] not in FORMS:
        return False
    form = FORMS[thing[0]]
    return len(thing) == len(form) + 1 and all(fine(part) for fine, part in zip(form, thing[1:]))


class PlainSession:
    """What a Session should be, by the words. Of a Refusal "why" is what a desk answers."""

    def __init__(self, order, room=2000):
        self.order = order
        self.room = room
        self.functions = {}
        self.log = []
        self.done = []

    def stand(self):
        return (self.order, self.room, dict(self.functions))

    def go(self, stand):
        self.order, self.room, self.functions = stand[0], stand[1], dict(stand[2])

    def all_functions(self):
        return list(self.functions.values())

    def many(self):
        return many_knots(self.all_functions(), self.order)

    def do(self, deeds):
        """Does deeds; tells None, or a Refusal."""
        number = len(self.log) // 2 + 1
        ahead = self.stand()
        self.log.append(("begun", number))
        at = -1
        try:
            if type(deeds) is not tuple or not 1 <= len(deeds) <= 8:
                raise Refusal("BadDeed", ())
            for which, deed in enumerate(deeds):
                if not deed_form(deed):
                    raise Refusal("BadDeed", (which,))
            for at, deed in enumerate(deeds):
                getattr(self, "do_" + deed[0])(*deed[1:])
        except Refusal as refusal:
            self.go(ahead)
            self.log.append(("refused", number, at))
            return refusal
        self.done.append(ahead)
        self.log.append(("done", number))
        return None

    def function_of(self, formula):
        for _, (word, *behind) in met(formula):
            if word not in ("name", "some", "all", "put") or behind[0] in self.order:
                continue
            if word != "name" or behind[0] not in self.functions:
                raise Refusal("NoSuch", behind[0])
        return frozenset(row for row in rows_by(self.order) if bound_yes(formula, row, self.order, self.functions))

    def question(self, why):
        refusal = Refusal("BadQuestion")
        refusal.why = why
        raise refusal

    def do_bind(self, name, formula):
        if name in self.order:
            self.question(f"there {name}")
        function = self.function_of(formula)
        self.functions[name] = function
        if self.many() > self.room:
            self.order = sifted_whole(self.all_functions(), self.order)
            if self.many() > self.room:
                raise Refusal("TooGreat", self.many())

    def do_free(self, name):
        if name not in self.functions:
            raise Refusal("NoSuch", name)
        del self.functions[name]

    def do_order(self, order):
        for name in order:
            if name in self.functions:
                self.question(f"there {name}")
        for name in self.order:
            if name not in order and any(name in hangs(function, self.order) for function in self.all_functions()):
                raise Refusal("HangsOn", name)
        old = self.order
        self.functions = {
            name: frozenset(row for row in rows_by(order) if own_row(row, old) in function)
            for name, function in self.functions.items()
        }
        self.order = order
        if self.many() > self.room:
            raise Refusal("TooGreat", self.many())

    def do_sift(self):
        if self.order:
            self.order = sifted_whole(self.all_functions(), self.order)

    def do_name(self, name):
        if name in self.order or name in self.functions:
            self.question(f"there {name}")
        if len(self.order) == 10:
            self.question("too many")
        self.do_order((*self.order, name))

    def do_room(self, room):
        if room < self.many():
            self.question(f"full {self.many()}")
        self.room = room

    def undo(self):
        """Takes the last do back; tells whether there was one."""
        if not self.done:
            return False
        self.go(self.done.pop())
        return True

    def table(self, formula):
        return table(self.function_of(formula), self.order)


def edge_word(edge):
    return {(-1, False): "yes", (-1, True): "no"}.get(edge) or ("!" if edge[1] else "") + str(edge[0])


def plain_text(order, told, between="\n"):
    """The text of a table."""
    rows = [" ".join(("order", *order)), "edge " + edge_word(told[0])]
    rows += [f"knot {one} {edge_word(high)} {edge_word(low)}" for one, high, low in told[1]]
    return between.join(rows)


class NoAnswer(Exception):
    """A line is answered by these words at once."""


NAME = "[a-z]{1,8}"
FIGURES = "(?:0|[1-9][0-9]*)"
READER = PlainReader()


def plain_formula(text):
    """The formula of a text; NoAnswer of one that is none."""
    kind, told = READER.told(text)
    if kind == "text":
        raise NoAnswer(f"no formula {told}")
    if kind == "formula":
        raise NoAnswer("great")
    return told


class PlainDesk:
    """What a desk should answer, by the words."""

    def __init__(self):
        self.session = PlainSession(())

    def say(self, line):
        try:
            return self.answer(line)
        except NoAnswer as told:
            return str(told)
        except Refusal as refusal:
            return {"BadQuestion": getattr(refusal, "why", None), "NoSuch": f"no such {refusal.field}",
                    "HangsOn": f"hangs {refusal.field}", "TooGreat": f"full {refusal.field}"}[refusal.kind]

    def answer(self, line):
        if type(line) is not str:
            raise NoAnswer("no line")
        parts = line.split(" ; ")
        word = line.split(" ")[0]
        if len(parts) == 1 and hasattr(self, "ask_" + word):
            return getattr(self, "ask_" + word)(line)
        if len(parts) > 8:
            raise NoAnswer("no line")
        deeds = [self.deed(part) for part in parts]
        deeds = tuple((word, its, plain_formula(text)) if word == "bind" else (word,
            *([its] if its is not None else []))
                      for word, its, text in deeds)
        told = self.session.do(deeds)
        if told is not None:
            raise told
        return "done"

    def deed(self, part):
        """A deed of a line as (word, what's behind it, text)."""
        for form, read in [
            (f"(name|free) ({NAME})", lambda it: (it[1], it[2], None)),
            (f"bind ({NAME}) = (.*)", lambda it: ("bind", it[1], it[2])),
            (f"order((?: {NAME})*)", lambda it: ("order", tuple(it[1].split()), None)),
            ("sift", lambda it: ("sift", None, None)),
            (f"room ({FIGURES})", lambda it: ("room", int(it[1]), None)),
        ]:
            found = re.fullmatch(form, part, re.DOTALL)
            if found:
                word, its, text = read(found)
                if word == "order" and not is_plain_order(its) or word == "room" and its > 2000:
                    raise NoAnswer("no line")
                return word, its, text
        raise NoAnswer("no line")

    def matched(self, form, line):
        found = re.fullmatch(form, line, re.DOTALL)
        if found is None:
            raise NoAnswer("no line")
        return found

    def one_comma(self, line):
        """Refuses a second " , "."""
        if len(line.split(" , ")) > 2:
            raise NoAnswer("no line")

    def names(self, names, empty="none"):
        return " ".join(names) or empty

    def row(self, rows):
        """The first of some rows."""
        return self.names(min(rows, key=row_key), "empty") if rows else "none"

    def asked(self, line):
        """The function of the only formula of a line."""
        return self.session.function_of(plain_formula(self.matched("[a-z]+ (.*)", line)[1]))

    def ask_undo(self, line):
        self.matched("undo", line)
        return "done" if self.session.undo() else "nothing"

    def ask_knots(self, line):
        self.matched("knots", line)
        return str(self.session.many())

    def ask_names(self, line):
        self.matched("names", line)
        return self.names(self.session.order)

    def ask_bound(self, line):
        self.matched("bound", line)
        return self.names(sorted(self.session.functions))

    def ask_show(self, line):
        order = self.session.order
        return plain_text(order, table(self.asked(line), order), " ; ")

    def ask_count(self, line):
        return str(len(self.asked(line)))

    def ask_row(self, line):
        return self.row(self.asked(line))

    def ask_same(self, line):
        self.one_comma(line)
        formulas = [plain_formula(text) for text in self.matched("same (.*) , (.*)", line).groups()]
        first, second = [self.session.function_of(formula) for formula in formulas]
        return "no " + self.row(first ^ second) if first != second else "yes"

    def ask_share(self, line):
        self.one_comma(line)
        text, pairs = self.matched("share (.*?)(?: , (.*))?", line).groups()
        chances = {}
        for one, up, down in self.pairs(pairs) if pairs is not None else []:
            if one in chances or down == 0 or up > down or down > 999:
                raise NoAnswer("no line")
            chances[one] = Fraction(up, down)
        function = self.session.function_of(plain_formula(text))
        for one in chances:
            if one not in self.session.order:
                raise Refusal("NoSuch", one)
        total = Fraction(0)
        for row in function:
            share = Fraction(1)
            for one in self.session.order:
                yes = chances.get(one, Fraction(1, 2))
                share *= yes if one in row else 1 - yes
            total += share
        return f"{total.numerator}/{total.denominator}"

    def pairs(self, text):
        pair = f"{NAME} {FIGURES}/{FIGURES}"
        self.matched(f"{pair}(?: {pair})*", text)
        return [(one, int(up), int(down)) for one, up, down in re.findall("([a-z]+) ([0-9]+)/([0-9]+)", text)]

    def ask_least(self, line):
        from tests.test_leastorders import plain_least
        function = self.asked(line)
        names = tuple(sorted(hangs(function, self.session.order)))
        if len(names) > 8:
            raise NoAnswer("great")
        own = frozenset(row for row in function if set(row) <= set(names))
        order, many = plain_least(own, names)
        return " ".join(["order", *order, str(many)])
