import unittest
from itertools import permutations, product

from knotweb.errors import BadFamily, BadOrder, BadQuestion, NoSuch, TooGreat
from knotweb.families import need_family, need_sheet
from knotweb.shelves import Shelf
from tests.plain import all_rows, chances, deep, doubled, nothings
from tests.plainshelf import PlainShelf, in_order, knots_of_families
from tests.plainweb import Refusal, family_refusal, functions_of, row_key, rows_by
from tests.refusing import Refusing

AB = ("a", "b")
ABC = ("a", "b", "c")
TEN = tuple("abcdefghij")
GREAT = 10 ** 3999
FULL = 10 ** 12 - 1
# Each of three pairs is whole or not there at all.
PAIRED = ((), ("a", "b"), ("c", "d"), ("e", "f"), ("a", "b", "c", "d"), ("a", "b", "e", "f"), ("c", "d", "e", "f"),
          tuple("abcdef"))
KINDS = {"NoSuch": NoSuch, "BadQuestion": BadQuestion, "TooGreat": TooGreat}
FIELDS = {"NoSuch": "name", "TooGreat": "knots"}
NO_HANDLES = [0, -1, True, False, None, "1", (1,), [1], {}, GREAT, -GREAT, deep(()), doubled(())]
NO_NAMES = ["z", "", "A", None, 1, True, ("a",), ["a"], {}, b"a", deep(())]

ONE = ["least", "greatest", "cuts"]
TWO = ["union", "common", "less", "join", "meets", "quotient", "remainder", "holding", "lying"]
NAMED = ["with_name", "rest", "changed"]
MAKING = ONE + TWO + NAMED
ASKING = [("family", 1), ("sheet", 1), ("count", 1), ("set_at", 2), ("number_of", 2), ("lightest", 2)]


class Shelves(Refusing):
    def shelf(self, order, *families, room=2000):
        shelf = Shelf(order, room=room)
        for family in families:
            shelf.make(family)
        return shelf

    def assert_alike(self, shelf, plain, word, *handed):
        """A shelf tells or refuses just what the plain one does; tells which."""
        expected = plain.deed(word, *handed)
        call = getattr(shelf, word)
        if not isinstance(expected, Refusal):
            self.assertEqual(repr(call(*handed)), repr(expected))
            return expected
        told = self.refused(KINDS[expected.kind], call, *handed)
        if expected.kind == "TooGreat":
            self.assertEqual(repr(told.knots), repr(expected.field))
        if expected.kind == "NoSuch":
            self.assertIs(told.name, expected.field)
        return expected

    def look(self, shelf, plain):
        """Holds the whole against the plain shelf."""
        many = plain.many()
        self.assertEqual(shelf.order(), plain.order)
        self.assertEqual(shelf.room(), plain.room)
        self.assertEqual(shelf.handles(), sorted(plain.families))
        self.assertEqual(shelf.many(), many)
        self.assertEqual(len(shelf), len(plain.families))
        self.assertEqual(str(shelf), f"{len(plain.families)} handles, {many} knots")
        self.assertEqual(repr(shelf), f"Shelf({len(plain.families)} handles, {many} knots)")
        for h, family in plain.families.items():
            self.assertEqual(shelf.family(h), in_order(family))


class Made(Shelves):
    def test_a_new_shelf(self):
        shelf = Shelf(("b", "a"))
        self.assertEqual((shelf.order(), shelf.room(), shelf.handles(), shelf.many()), (("b", "a"), 2000, [], 0))
        self.assertEqual((len(shelf), str(shelf), repr(shelf)), (0, "0 handles, 0 knots", "Shelf(0 handles, 0 knots)"))
        self.assertEqual(Shelf((), room=0).room(), 0)
        self.assertEqual(Shelf(TEN, room=2000).order(), TEN)

    def test_refused(self):
        self.assert_place(BadOrder, (1,), Shelf, ("a", "a"))
        self.assert_place(BadOrder, (), Shelf, TEN + ("k",))
        with self.assertRaises(BadOrder):
            Shelf(("a", "A"), room=-1)
        for room in (-1, 2001, True, False, None, "5", (5,), [5], GREAT, -GREAT):
            self.refused(BadQuestion, Shelf, AB, room=room)
        for kind, thing in nothings():
            with self.subTest(kind):
                self.refused(BadOrder, Shelf, thing)
                if type(thing) is not int or not 0 <= thing <= 2000:
                    self.refused(BadQuestion, Shelf, AB, room=thing)
        with self.assertRaises(TypeError):
            Shelf(AB, 5)

    def test_make(self):
        shelf = Shelf(("b", "a"))
        self.assertEqual([shelf.make(f) for f in ((), ((),), (("a",), ("b",)), ())], [1, 2, 3, 4])
        self.assertEqual([shelf.family(h) for h in (1, 2, 3, 4)], [(), ((),), (("a",), ("b",)), ()])
        for thing, place in [([], ()), ((("b",), ("a",)), (1,)), ((("c",),), (0,)), (((), 5), (1,)), (((), ()), (1,))]:
            self.assert_place(BadFamily, place, shelf.make, thing)
        for kind, thing in nothings():
            with self.subTest(kind):
                place = family_refusal(("b", "a"), thing)
                if place is not None:
                    self.assert_place(BadFamily, place, shelf.make, thing)
                self.assert_place(BadFamily, (1,), shelf.make, ((), thing))
        self.assertEqual(shelf.make(((),)), 5)

    def test_of_ten_names(self):
        every = tuple(all_rows(TEN))
        shelf = self.shelf(TEN, every)
        self.assertEqual((shelf.many(), shelf.count(1), shelf.family(1)), (10, 1024, every))
        self.assertEqual(shelf.family(shelf.cuts(1)), ())
        self.assertEqual(shelf.family(shelf.greatest(1)), (TEN,))
        self.assertEqual(shelf.family(shelf.least(1)), ((),))
        self.assertEqual(shelf.family(shelf.join(1, 1)), every)
        self.assertEqual(shelf.family(shelf.meets(1, 1)), every)
        singles = shelf.make(tuple((name,) for name in TEN))
        self.assertEqual(shelf.family(shelf.cuts(singles)), (TEN,))
        self.assertEqual(shelf.family(shelf.quotient(1, singles)), ((),))
        self.assertEqual(shelf.count(shelf.remainder(1, singles)), 1014)


class Deeds(Shelves):
    def test_by_hand(self):
        f, g = ((), ("a",), ("a", "b"), ("b", "c")), (("a",), ("b",))
        shelf = self.shelf(ABC, f, g)
        for word, handed, told in [
            ("union", (1, 2), ((), ("a",), ("b",), ("a", "b"), ("b", "c"))),
            ("common", (1, 2), (("a",),)),
            ("less", (1, 2), ((), ("a", "b"), ("b", "c"))),
            ("join", (1, 2), (("a",), ("b",), ("a", "b"), ("b", "c"), ("a", "b", "c"))),
            ("meets", (1, 2), ((), ("a",), ("b",))),
            ("quotient", (1, 2), ()), ("quotient", (2, 2), ((),)),
            ("remainder", (1, 2), f), ("remainder", (2, 2), ()),
            ("least", (1,), ((),)), ("greatest", (1,), (("a", "b"), ("b", "c"))), ("least", (2,), g),
            ("holding", (1, 2), (("a",), ("a", "b"), ("b", "c"))), ("lying", (1, 2), ((), ("a",))),
            ("cuts", (1,), ()), ("cuts", (2,), (("a", "b"),)),
            ("with_name", (1, "a"), ((), ("b",))), ("rest", (1, "a"), ((), ("b", "c"))),
            ("changed", (1, "a"), ((), ("a",), ("b",), ("a", "b", "c"))),
        ]:
            with self.subTest(word):
                self.assertEqual(shelf.family(getattr(shelf, word)(*handed)), told)
        self.assertEqual((shelf.family(1), shelf.family(2)), (f, g))

    def test_quotients_by_hand(self):
        shelf = self.shelf(ABC, (("a",), ("a", "b"), ("a", "c"), ("b", "c"), ("a", "b", "c")), (("a",),),
            (("b",), ("c",)),
                           ((),))
        self.assertEqual(shelf.family(shelf.quotient(1, 2)), ((), ("b",), ("c",), ("b", "c")))
        self.assertEqual(shelf.family(shelf.remainder(1, 2)), (("b", "c"),))
        self.assertEqual(shelf.family(shelf.quotient(1, 3)), (("a",),))
        self.assertEqual(shelf.family(shelf.remainder(1, 3)), (("a",), ("b", "c"), ("a", "b", "c")))
        self.assertEqual(shelf.family(shelf.quotient(1, 4)), shelf.family(1))
        self.assertEqual(shelf.family(shelf.remainder(1, 4)), ())

    def test_of_nothing_and_of_the_empty_set(self):
        for order in ((), AB):
            shelf = self.shelf(order, (), ((),))
            self.assertEqual(shelf.many(), 0)
            for word, handed, told in [
                ("cuts", (1,), ((),)), ("cuts", (2,), ()), ("least", (1,), ()), ("least", (2,), ((),)),
                ("greatest", (1,), ()), ("greatest", (2,), ((),)), ("join", (1, 2), ()), ("join", (2, 1), ()),
                ("join", (2, 2), ((),)), ("meets", (1, 2), ()), ("meets", (2, 2), ((),)),
                ("quotient", (1, 2), ()), ("quotient", (2, 2), ((),)), ("remainder", (2, 2), ()),
                ("remainder", (1, 2), ()), ("union", (1, 2), ((),)), ("common", (1, 2), ()), ("less", (2, 1), ((),)),
                ("holding", (2, 1), ()), ("lying", (2, 1), ()), ("holding", (2, 2), ((),)), ("lying", (1, 2), ()),
            ]:
                with self.subTest(word, order=order, handed=handed):
                    self.assertEqual(shelf.family(getattr(shelf, word)(*handed)), told)

    def test_all_families_of_two_names(self):
        for order in permutations("ab"):
            families = [in_order(rows) for rows in functions_of(order)]
            for f, g in product(families, repeat=2):
                shelf, plain = self.shelf(order, f, g), PlainShelf(order)
                plain.deed("make", f)
                plain.deed("make", g)
                for word in ONE:
                    self.assert_alike(shelf, plain, word, 1)
                for word in TWO:
                    self.assert_alike(shelf, plain, word, 1, 2)
                for word in NAMED:
                    self.assert_alike(shelf, plain, word, 1, "a")
                    self.assert_alike(shelf, plain, word, 1, "b")
                self.look(shelf, plain)

    def test_drawn_families_of_many_names(self):
        chance = chances(61)
        for many in (3, 3, 3, 3, 3, 4, 4, 4, 4, 5, 5):
            for _ in range(12):
                order = tuple(chance.sample("abcde", many))
                shelf, plain = Shelf(order), PlainShelf(order)
                for _ in range(3):
                    share = chance.choice([0.1, 0.3, 0.5, 0.8])
                    family = tuple(row for row in rows_by(order) if chance.random() < share)
                    self.assert_alike(shelf, plain, "make", family)
                for word in ONE:
                    self.assert_alike(shelf, plain, word, 1)
                for word in TWO:
                    self.assert_alike(shelf, plain, word, *chance.sample([1, 2, 3], 2))
                # Quotients that have sets, by families of few sets.
                few = tuple(sorted(chance.sample(rows_by(order), 2), key=row_key))
                made = self.assert_alike(shelf, plain, "make", few)
                joined = self.assert_alike(shelf, plain, "join", made, 2)
                self.assert_alike(shelf, plain, "quotient", joined, made)
                self.assert_alike(shelf, plain, "remainder", joined, made)
                for word in NAMED:
                    self.assert_alike(shelf, plain, word, 1, chance.choice(order))
                self.look(shelf, plain)


class Knots(Shelves):
    def test_those_of_all_handles_like_ones_once(self):
        shelf = self.shelf(ABC, (("a", "b"),))
        self.assertEqual(shelf.many(), 2)
        shelf.make((("b",),))
        self.assertEqual(shelf.many(), 2)
        shelf.make((("a", "b"),))
        self.assertEqual(shelf.many(), 2)
        shelf.make((("c",), ("a", "b")))
        self.assertEqual(shelf.many(), 4)
        shelf.let_go(1)
        self.assertEqual(shelf.many(), 4)
        shelf.let_go(3)
        self.assertEqual(shelf.many(), 3)
        shelf.let_go(4)
        self.assertEqual(shelf.many(), 1)
        shelf.let_go(2)
        self.assertEqual(shelf.many(), 0)

    def test_drawn_shelves_by_all_orders(self):
        chance = chances(62)
        for _ in range(20):
            order = ("a", "b", "c", "d")
            families = [
                frozenset(row for row in rows_by(order) if chance.random() < 0.4) for _ in range(chance.randrange(1, 4))
            ]
            shelf = self.shelf(order, *map(in_order, families))
            for other in permutations(order):
                many = shelf.to_order(other)
                self.assertEqual(many, len(knots_of_families(families, other)))
                self.assertEqual((many, other), (shelf.many(), shelf.order()))
                self.assertEqual([shelf.family(h) for h in shelf.handles()], [in_order(f) for f in families])
                for h in shelf.handles():
                    self.assertIsNotNone(need_sheet(other, shelf.sheet(h)))

    def test_room_of_just_as_many_and_of_one_fewer(self):
        f, g = (("a",), ("b", "c")), (("b",), ("a", "c"))
        order = ("a", "b", "c")
        together = self.shelf(order, f, g).many()
        for word in MAKING + ["make"]:
            whole = self.shelf(order, f, g)
            handed = {1: (1,), 2: (1, 2), 3: (1, "b"), 4: ((("a",), ("c",), ("a", "b", "c")),)}[
                1 if word in ONE else 2 if word in TWO else 3 if word in NAMED else 4]
            getattr(whole, word)(*handed)
            many = whole.many()
            with self.subTest(word):
                tight = self.shelf(order, f, g, room=many)
                self.assertEqual(getattr(tight, word)(*handed), 3)
                if many == together:
                    continue
                tight = self.shelf(order, f, g, room=many - 1)
                ahead = tight.copy()
                self.assertEqual(self.refused(TooGreat, getattr(tight, word), *handed).knots, many)
                self.assertEqual((tight == ahead, tight.many(), tight.order(), tight.handles()),
                                 (True, together, order, [1, 2]))
                self.assertEqual(tight.union(1, 1), 3)

    def test_no_room(self):
        shelf = Shelf(AB, room=0)
        self.assertEqual([shelf.make(()), shelf.make(((),)), shelf.union(1, 2)], [1, 2, 3])
        self.assertEqual(self.refused(TooGreat, shelf.make, (("a",),)).knots, 1)
        self.assertEqual(self.refused(TooGreat, shelf.changed, 2, "b").knots, 1)
        self.assertEqual(shelf.cuts(1), 4)
        self.assertEqual(shelf.to_order(("b", "a")), 0)

    def test_to_order_is_refused_for_room(self):
        family = PAIRED
        good, bad = tuple("abcdef"), tuple("acebdf")
        fewest, most = self.shelf(good, family).many(), self.shelf(bad, family).many()
        self.assertLess(fewest, most)
        shelf = self.shelf(good, family, room=most - 1)
        self.assertEqual(self.refused(TooGreat, shelf.to_order, bad).knots, most)
        self.assertEqual((shelf.order(), shelf.many(), shelf.family(1)), (good, fewest, family))
        self.assertEqual(self.shelf(good, family, room=most).to_order(bad), most)

    def test_nothing_is_sifted(self):
        bad = tuple("acebdf")
        family = PAIRED
        most = self.shelf(bad, family).many()
        shelf = Shelf(bad, room=most - 1)
        self.assertEqual(self.refused(TooGreat, shelf.make, family).knots, most)
        self.assertEqual(shelf.order(), bad)


class Refusals(Shelves):
    def test_handles_and_names_of_anything(self):
        shelf = self.shelf(ABC, (("a",),), ())
        for thing in NO_HANDLES + [3, 4]:
            for word in ONE + ["family", "sheet", "count", "let_go"]:
                self.assert_no_such(thing, getattr(shelf, word), thing)
            for word in TWO + ["is_one"]:
                self.assert_no_such(thing, getattr(shelf, word), thing, [])
                self.assert_no_such(thing, getattr(shelf, word), 1, thing)
            for word in NAMED:
                self.assert_no_such(thing, getattr(shelf, word), thing, [])
            for word in ("set_at", "number_of", "lightest"):
                self.assert_no_such(thing, getattr(shelf, word), thing, None)
        for thing in NO_NAMES:
            for word in NAMED:
                self.assert_no_such(thing, getattr(shelf, word), 1, thing)
        for word in ("quotient", "remainder"):
            self.refused(BadQuestion, getattr(shelf, word), 1, 2)
            self.refused(BadQuestion, getattr(shelf, word), 2, 2)
            self.assert_no_such(9, getattr(shelf, word), 9, 2)
        self.assertEqual(shelf.handles(), [1, 2])
        self.assertEqual(shelf.least(1), 3)

    def test_a_handle_let_go_is_there_no_longer_and_never_again(self):
        shelf = self.shelf(AB, (("a",),), (("b",),), (("a", "b"),))
        self.assertIsNone(shelf.let_go(3))
        self.assertIsNone(shelf.let_go(1))
        self.assert_no_such(1, shelf.family, 1)
        self.assert_no_such(3, shelf.let_go, 3)
        self.assertEqual(shelf.make(()), 4)
        self.assertEqual((shelf.handles(), len(shelf)), ([2, 4], 2))

    def test_divided_by_nothing_ahead_of_too_great(self):
        shelf = self.shelf(AB, (("a",), ("b",)), (), room=2)
        self.refused(BadQuestion, shelf.quotient, 1, 2)
        self.refused(BadQuestion, shelf.remainder, 1, 2)

    def test_to_order(self):
        shelf = self.shelf(ABC, (("a",),))
        self.assert_place(BadOrder, (1,), shelf.to_order, ("z", "z"))
        self.assert_no_such("b", shelf.to_order, ("a", "z", "y"))
        self.assert_no_such("y", shelf.to_order, ("c", "y", "b", "a", "z"))
        self.assert_no_such("a", shelf.to_order, ())
        for kind, thing in nothings():
            with self.subTest(kind):
                self.refused(BadOrder, shelf.to_order, thing)
        self.assertEqual(shelf.order(), ABC)


class Asked(Shelves):
    def test_set_at_and_number_of(self):
        f = ((), ("b",), ("a", "c"), ("b", "c"))
        shelf = self.shelf(("c", "a", "b"), f, ())
        for number, row in enumerate(f):
            self.assertEqual(shelf.set_at(1, number), row)
            self.assertEqual(shelf.number_of(1, row), number)
        self.assertIsNone(shelf.number_of(1, ("a",)))
        self.assertIsNone(shelf.number_of(2, ()))
        for thing in (-1, 4, True, False, None, "0", (0,), [0], GREAT, -GREAT):
            self.refused(BadQuestion, shelf.set_at, 1, thing)
        self.refused(BadQuestion, shelf.set_at, 2, 0)
        for thing in (("d",), ("b", "a"), ["a"], "a", None, 5, True, ("a", "a"), (["a"],), {}, deep(()), doubled(())):
            self.refused(BadQuestion, shelf.number_of, 1, thing)
        self.assertIs(type(shelf.set_at(1, 0)), tuple)
        self.assertEqual([repr(shelf.count(1)), repr(shelf.count(2))], ["4", "0"])

    def test_lightest(self):
        shelf = self.shelf(("c", "a", "b"), (("a",), ("b",), ("a", "c")), (), ((),))
        self.assertEqual(shelf.lightest(1, {"a": 2, "b": 1, "c": 0}), (1, ("b",)))
        self.assertEqual(shelf.lightest(1, {"b": 0, "a": 0, "c": 0}), (0, ("a",)))
        self.assertEqual(shelf.lightest(1, {"a": 2, "b": 2, "c": -1}), (1, ("a", "c")))
        self.assertEqual(shelf.lightest(1, {"a": -FULL, "b": FULL, "c": -FULL}), (-2 * FULL, ("a", "c")))
        self.assertIsNone(shelf.lightest(2, {"a": 1, "b": 1, "c": 1}))
        self.assertEqual(shelf.lightest(3, {"a": 1, "b": 1, "c": 1}), (0, ()))
        self.assertEqual(self.shelf((), ((),)).lightest(1, {}), (0, ()))
        fine = {"a": 1, "b": 1, "c": 1}
        for thing in [
            {}, {"a": 1, "b": 1}, {**fine, "d": 1}, {"a": 1, "b": 1, "d": 1}, {**fine, 5: 1}, {**fine, "c": FULL + 1},
            {**fine, "c": -FULL - 1}, {**fine, "a": True}, {**fine, "b": None}, {**fine, "b": "1"}, {**fine, "b": [1]},
            {**fine, "b": GREAT}, None, [], (), [("a", 1), ("b", 1), ("c", 1)], "abc", 5, True, {"a", "b", "c"},
        ]:
            self.refused(BadQuestion, shelf.lightest, 1, thing)
            self.refused(BadQuestion, shelf.lightest, 2, thing)
        for kind, thing in nothings():
            with self.subTest(kind):
                self.refused(BadQuestion, shelf.lightest, 1, thing)

    def test_drawn_weights(self):
        chance = chances(63)
        for _ in range(150):
            order = tuple(chance.sample("abcd", 4))
            family = tuple(row for row in rows_by(order) if chance.random() < 0.4)
            shelf, plain = self.shelf(order, family), PlainShelf(order)
            plain.deed("make", family)
            weights = {name: chance.randrange(-2, 3) for name in chance.sample("abcd", 4)}
            self.assert_alike(shelf, plain, "lightest", 1, weights)

    def test_equal_only_by_order_and_handles_and_families(self):
        shelf = self.shelf(AB, (("a",),), ())
        other = self.shelf(AB, (("a",),), (), room=7)
        self.assertIs(shelf == other, True)
        self.assertIs(shelf != other, False)
        other.to_order(("b", "a"))
        self.assertIs(shelf == other, False)
        other.to_order(AB)
        self.assertIs(shelf == other, True)
        other.let_go(2)
        self.assertIs(shelf == other, False)
        shelf.let_go(2)
        self.assertIs(shelf == other, True)
        self.assertEqual((shelf.make(((),)), other.make(())), (3, 3))
        self.assertIs(shelf == other, False)
        for thing in (None, 5, "Shelf", (), AB, Shelf):
            self.assertIs(shelf == thing, False)
        self.assertIs(shelf.is_one(1, 3), False)
        self.assertIs(shelf.is_one(1, shelf.make((("a",),))), True)

    def test_what_is_told_is_the_askers_own(self):
        shelf = self.shelf(AB, (("a",),))
        shelf.handles().append(5)
        self.assertEqual(shelf.handles(), [1])
        weights = {"a": 1, "b": 2}
        shelf.lightest(1, weights)
        self.assertEqual(weights, {"a": 1, "b": 2})


class Drawn(Shelves):
    """Long drawn rows of deeds and questions, refused ones among them, each held against the plain shelf."""

    def handle(self, chance, plain):
        if not plain.families or chance.random() < 0.05:
            return chance.choice(NO_HANDLES + [plain.last + 1])
        return chance.choice(list(plain.families))

    def handed(self, chance, plain, word):
        handle = self.handle(chance, plain)
        if word in TWO or word == "is_one":
            return (handle, self.handle(chance, plain))
        if word in NAMED:
            return (handle, chance.choice([*plain.order, *plain.order, *plain.order, "z", None]))
        if word == "make":
            share = chance.choice([0.1, 0.4])
            return (tuple(row for row in rows_by(plain.order) if chance.random() < share),)
        if word == "to_order":
            names = list(plain.order)
            chance.shuffle(names)
            return (tuple(names) if chance.random() < 0.8 else (*names[1:], "z"),)
        if word == "set_at":
            return (handle, chance.choice([0, 1, 2, 5, -1, True]))
        if word == "number_of":
            return (handle, chance.choice([*rows_by(plain.order), ("z",), None]))
        if word == "lightest":
            return (handle, {name: chance.randrange(-3, 4) for name in plain.order})
        return (handle,)

    def test_rows_of_deeds(self):
        chance = chances(64)
        words = MAKING * 2 + ["make"] * 8 + ["let_go"] * 12 + ["to_order"] * 4 + ["is_one",
            *(word for word, _ in ASKING)]
        great = 0
        for _ in range(80):
            order = tuple(chance.sample("abcd", chance.choice([0, 1, 2, 3, 3, 4, 4])))
            room = chance.choice([0, 2, 4, 5, 6, 8, 2000])
            shelf, plain = Shelf(order, room=room), PlainShelf(order, room)
            twins = None
            for at in range(40):
                word = chance.choice(words)
                told = self.assert_alike(shelf, plain, word, *self.handed(chance, plain, word))
                great += isinstance(told, Refusal) and told.kind == "TooGreat"
                self.look(shelf, plain)
                if at == 20:
                    twins = shelf.copy()
                    self.assertIs(twins == shelf, True)
                    ahead = (twins.order(), twins.handles(), twins.many(), [twins.family(h) for h in twins.handles()])
                    following = plain.last + 1
            self.assertEqual(
                (twins.order(), twins.handles(), twins.many(), [twins.family(h) for h in twins.handles()]), ahead)
            self.assertEqual((twins.room(), twins.make(())), (room, following))
        self.assertGreater(great, 100)

    def test_families_and_sheets_told_are_such(self):
        chance = chances(65)
        for _ in range(40):
            order = tuple(chance.sample(TEN, chance.choice([4, 10])))
            family = tuple(row for row in rows_by(order) if chance.random() < 0.1)
            shelf = self.shelf(order, family)
            self.assertIsNotNone(need_family(order, shelf.family(1)))
            self.assertIsNotNone(need_sheet(order, shelf.sheet(1)))
            self.assertEqual(len(shelf.sheet(1)[1]), shelf.many())


if __name__ == "__main__":
    unittest.main()
