"""Long drawn rows of deeds, refused ones among them, each held against the plain web behind each deed."""

import unittest

from knotweb.errors import BadQuestion, HangsOn, NoSuch, TooGreat
from knotweb.formulas import names_in
from knotweb.tables import formula_of, need_table
from knotweb.webs import Web
from tests.plain import chances, plain_yes, random_formula
from tests.plainweb import PlainWeb, Refusal, hangs, knots, name_counts, row_key, rows_by, table

KINDS = {"NoSuch": NoSuch, "BadQuestion": BadQuestion, "TooGreat": TooGreat, "HangsOn": HangsOn}
FIELDS = {"NoSuch": "name", "TooGreat": "knots", "HangsOn": "name"}
NO_HANDLES = [0, -1, True, False, None, "1", (1,), [1], {}, 10 ** 3999, 99]
NO_NAMES = ["z", "", "A", None, 1, True, ("a",), ["a"], {}]
NO_PLACES = [-1, 9, True, False, None, "0", (0,), [0], -10 ** 3999, 10 ** 3999]


class Drawer:
    """Draws deeds for a web as it stands, now and then such as are refused."""

    def __init__(self, chance, wrong):
        self.chance = chance
        self.wrong = wrong

    def one(self, fine, wrong):
        """Something of what's fine, now and then something wrong."""
        if not fine or self.chance.random() < self.wrong:
            return self.chance.choice(wrong)
        return self.chance.choice(fine)

    def handle(self, plain):
        gone = [h for h in range(1, plain.last + 2) if h not in plain.functions]
        return self.one(list(plain.functions), NO_HANDLES + gone)

    def name(self, plain):
        return self.one(list(plain.order), NO_NAMES)

    def names(self, plain):
        if self.chance.random() < self.wrong:
            return self.chance.choice([list(plain.order), None, "ab", {}, 5, True])
        return tuple(self.name(plain) for _ in range(self.chance.randrange(4)))

    def rows(self, plain):
        rows = [row for row in rows_by(plain.order) if self.chance.random() < 0.5]
        if self.chance.random() < self.wrong:
            rows.insert(self.chance.randrange(len(rows) + 1), self.chance.choice([(), ("z",), 5, ["a"], ("b", "a")]))
            return self.chance.choice([rows, tuple(rows)])
        return tuple(rows)

    def place(self, many):
        return self.one(list(range(many)), NO_PLACES + [many])

    def order(self, plain):
        names = list(plain.order)
        self.chance.shuffle(names)
        if self.chance.random() < self.wrong:
            if names and self.chance.random() < 0.6:
                names.pop()
            if self.chance.random() < 0.6:
                names.insert(0, "z")
        return tuple(names)

    def formula(self, plain):
        names = list(plain.order) + (["y", "z"] if self.chance.random() < self.wrong else [])
        return random_formula(self.chance, names, self.chance.choice([1, 3, 5])) if names else ("yes",)

    def handed(self, word, plain):
        """What's handed in for a deed, by its word."""
        handle, name = lambda: self.handle(plain), lambda: self.name(plain)
        many = len(plain.order)
        return {
            "make": lambda: (self.formula(plain),),
            "of_rows": lambda: (self.rows(plain),),
            "contrary": lambda: (handle(),), "again": lambda: (handle(),), "let_go": lambda: (handle(),),
            "both": lambda: (handle(), handle()), "either": lambda: (handle(), handle()),
            "unlike": lambda: (handle(), handle()), "within": lambda: (handle(), handle()),
            "choice": lambda: (handle(), handle(), handle()),
            "some": lambda: (handle(), self.names(plain)), "all_of": lambda: (handle(), self.names(plain)),
            "put": lambda: (handle(), name(), handle()),
            "fixed": lambda: (handle(), name(), self.one([True, False], [1, 0, None, "yes", (True,)])),
            "collect": lambda: (), "sift_all": lambda: (),
            "swap": lambda: (self.place(many - 1),),
            "move": lambda: (name(), self.place(many)),
            "to_order": lambda: (self.order(plain),),
            "sift": lambda: (name(),),
            "add_name": lambda: (self.one(["f", "e", "word"], NO_NAMES[1:] + list(plain.order) + ["abcdefghi"]),),
            "drop_name": lambda: (name(),),
            "set_room": lambda: (self.one(list(range(plain.many(), plain.many() + 4)), [
                plain.many() - 1, -1, 2001, True, None, "5", 10 ** 3999]),),
        }[word]()


MAKING = ["make", "make", "of_rows", "contrary", "both", "either", "unlike", "choice", "some", "all_of", "put",
          "fixed", "within", "again"]
OTHERS = ["let_go", "let_go", "collect", "swap", "move", "to_order", "sift", "sift_all", "add_name", "drop_name",
          "set_room"]


class AgainstPlain(unittest.TestCase):
    def do(self, web, plain, word, handed, named):
        """Does a deed on both; each tells the same, or refuses alike."""
        more = (names_in(handed[0]),) if word == "make" else ()
        expected = plain.deed(word, *handed, *more, **named)
        if isinstance(expected, Refusal):
            with self.assertRaises(KINDS[expected.kind]) as caught:
                getattr(web, word)(*handed, **named)
            self.assertIs(type(caught.exception), KINDS[expected.kind])
            if expected.kind in FIELDS:
                told = getattr(caught.exception, FIELDS[expected.kind])
                self.assertEqual(repr(told), repr(expected.field))
                if expected.kind != "TooGreat":
                    self.assertIs(told, expected.field)
            return True
        told = getattr(web, word)(*handed, **named)
        if word == "collect":
            self.assertIs(type(told), int)
            self.assertGreaterEqual(told, 0)
            self.assertEqual(web.kept(), web.many())
        else:
            self.assertEqual(repr(told), repr(expected))
        return False

    def look(self, web, plain):
        """Holds the whole against the plain web."""
        many = plain.many()
        self.assertEqual(web.order(), plain.order)
        self.assertEqual(web.room(), plain.room)
        self.assertEqual(web.handles(), sorted(plain.functions))
        self.assertEqual(web.many(), many)
        self.assertLessEqual(many, plain.room)
        self.assertGreaterEqual(web.kept(), many)
        self.assertEqual(list(web.by_name().items()), list(name_counts(plain.all_functions(), plain.order).items()))
        self.assertEqual(web.log(), plain.log)
        self.assertEqual(web.deeds(), len(plain.log) // 2)
        self.assertIs(web.busy(), False)
        self.assertEqual(len(web), len(plain.functions))
        self.assertEqual(str(web), f"{len(plain.functions)} handles, {many} knots")
        self.assertEqual(repr(web), f"Web({len(plain.functions)} handles, {many} knots)")
        for h, function in plain.functions.items():
            self.assertEqual(web.rows(h), sorted(function, key=row_key))

    def look_at_handle(self, web, plain, h, k):
        """Holds all that's asked of one handle, and beside another one, against the plain web."""
        f, g, order = plain.functions[h], plain.functions[k], plain.order
        rows = sorted(f, key=row_key)
        told = web.table(h)
        self.assertEqual(repr(told), repr(table(f, order)))
        self.assertIs(need_table(order, told), told)
        self.assertEqual(web.formula(h), formula_of(order, told))
        self.assertEqual(web.size(h), len(knots(f, order)))
        self.assertEqual(web.hangs_on(h), hangs(f, order))
        self.assertEqual(web.many_rows(h), len(f))
        self.assertEqual(web.first_row(h), rows[0] if rows else None)
        self.assertEqual(web.rows(h, most=2), rows[:2])
        self.assertIs(web.is_one(h, k), f == g)
        self.assertIs(web.implies(h, k), f <= g)
        self.assertEqual(web.apart_at(h, k), min(f ^ g, key=row_key, default=None))
        for row in rows_by(order):
            self.assertIs(web.is_yes(h, row), row in f)
            self.assertIs(plain_yes(web.formula(h), row), row in f)

    def go(self, chance, order, room, many, wrong):
        """So many drawn deeds on a web; tells how often it was sifted for room, and refused as too great."""
        web, plain = Web(order, room=room), PlainWeb(order, room)
        drawer = Drawer(chance, wrong)
        sifted = great = 0
        for _ in range(many):
            word = chance.choice(MAKING if chance.random() < 0.6 else OTHERS)
            if word == "add_name" and len(plain.order) > 4:
                word = "drop_name"
            handed, named = drawer.handed(word, plain), {}
            if word == "add_name" and chance.random() < 0.7:
                named = {"place": drawer.place(len(plain.order) + 1)}
            ahead = plain.order
            if self.do(web, plain, word, handed, named):
                great += plain.log[-1][0] == "refused" and word in MAKING
            sifted += word in MAKING and plain.order != ahead
            self.look(web, plain)
            if plain.functions:
                handles = list(plain.functions)
                self.look_at_handle(web, plain, chance.choice(handles), chance.choice(handles))
        return sifted, great


class Deeds(AgainstPlain):
    def test_drawn_rows_of_deeds(self):
        chance = chances(41)
        sifted = great = 0
        for _ in range(80):
            order = tuple(chance.sample("abcd", chance.choice([0, 1, 2, 3, 3, 4])))
            told = self.go(chance, order, chance.choice([0, 1, 3, 4, 6, 8, 2000]), 40, chance.choice([0, 0.1, 0.3]))
            sifted += told[0]
            great += told[1]
        for _ in range(60):
            told = self.go(chance, tuple(chance.sample("abcd", 4)), chance.choice([5, 6, 7, 9]), 40, 0.02)
            sifted += told[0]
            great += told[1]
        self.assertGreater(sifted, 30)
        self.assertGreater(great, 100)

    def test_a_long_row_of_deeds(self):
        self.go(chances(42), ("c", "a", "b"), 7, 600, 0.05)

    def test_names_of_many_letters(self):
        chance = chances(43)
        for _ in range(5):
            self.go(chance, ("word", "b", "some", "abcdefgh"), 9, 30, 0.05)

    def test_wider_webs(self):
        chance = chances(44)
        for room in (9, 14, 20):
            self.go(chance, ("e", "a", "d", "b", "c"), room, 30, 0.02)


class Copies(AgainstPlain):
    def test_copies_go_on_by_themselves(self):
        chance = chances(45)
        for _ in range(15):
            web, plain = Web(("a", "b", "c"), room=6), PlainWeb(("a", "b", "c"), 6)
            drawer = Drawer(chance, 0.1)
            for _ in range(15):
                word = chance.choice(MAKING + OTHERS[:-3])
                self.do(web, plain, word, drawer.handed(word, plain), {})
            other, second = web.copy(), PlainWeb(plain.order, plain.room)
            second.functions, second.last, second.log = dict(plain.functions), plain.last, list(plain.log)
            self.look(other, second)
            self.assertIs(other == web, True)
            for _ in range(20):
                which = chance.random() < 0.5
                one, its = (web, plain) if which else (other, second)
                word = chance.choice(MAKING + OTHERS)
                self.do(one, its, word, drawer.handed(word, its), {})
                self.look(web, plain)
                self.look(other, second)
                alike = plain.order == second.order and plain.functions == second.functions
                self.assertIs(web == other, alike)
                self.assertIs(web != other, not alike)


if __name__ == "__main__":
    unittest.main()
