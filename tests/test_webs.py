import unittest

from knotweb.errors import BadFormula, BadOrder, BadQuestion, HangsOn, NoSuch, TooGreat
from knotweb.formulas import NO, YES
from knotweb.tables import MOST_KNOTS, table_of
from knotweb.webs import Web
from tests.plain import all_rows, deep, doubled, name, nothings
from tests.refusing import Refusing

A, B, C = name("a"), name("b"), name("c")
AB = ("a", "b")
ABC = ("a", "b", "c")
TEN = tuple("abcdefghij")
GREAT = 10 ** 3999
AND, OR, XOR = ("and", A, B), ("or", A, B), ("xor", A, B)

# (word, handed in) of every deed, each refused on a web of the order ABC and the handles 1 and 2.
REFUSED = [
    ("make", (5,)), ("of_rows", (5,)), ("contrary", (3,)), ("both", (1, 3)), ("either", (3, 1)), ("unlike", (1, 3)),
    ("choice", (1, 2, 3)), ("some", (1, 5)), ("all_of", (1, 5)), ("put", (1, "z", 2)), ("fixed", (1, "a", 1)),
    ("within", (1, 3)), ("again", (3,)), ("let_go", (3,)), ("swap", (2,)), ("move", ("a", 3)), ("to_order", (5,)),
    ("sift", ("z",)), ("add_name", ("a",)), ("drop_name", ("a",)), ("set_room", (-1,)),
]
DONE = [
    ("make", (A,)), ("of_rows", ((),)), ("contrary", (1,)), ("both", (1, 2)), ("either", (1, 2)), ("unlike", (1, 2)),
    ("choice", (1, 2, 1)), ("some", (1, ())), ("all_of", (1, ())), ("put", (1, "a", 2)), ("fixed", (1, "a", True)),
    ("within", (1, 2)), ("again", (1,)), ("let_go", (1,)), ("collect", ()), ("swap", (0,)), ("move", ("a", 2)),
    ("to_order", (("b", "a", "c"),)), ("sift", ("a",)), ("sift_all", ()), ("add_name", ("x",)), ("drop_name", ("c",)),
    ("set_room", (1999,)),
]
ASKING = [
    ("kept", ()), ("many", ()), ("by_name", ()), ("order", ()), ("room", ()), ("handles", ()), ("table", (1,)),
    ("formula", (1,)), ("is_yes", (1, ())), ("is_one", (1, 2)), ("implies", (1, 2)), ("apart_at", (1, 2)),
    ("hangs_on", (1,)), ("many_rows", (1,)), ("first_row", (1,)), ("rows", (1,)), ("size", (1,)), ("deeds", ()),
    ("log", ()), ("busy", ()), ("copy", ()),
]


def state(web):
    """All that's told of a web, but for its deeds and log."""
    return (web.order(), web.room(), web.handles(), web.many(), web.by_name(),
            [web.table(h) for h in web.handles()])


class Webs(Refusing):
    def two(self, order=ABC, room=MOST_KNOTS):
        """A web with a & b and a | b."""
        web = Web(order, room=room)
        web.make(AND)
        web.make(OR)
        return web

    def assert_rows(self, web, h, *rows):
        self.assertEqual(web.rows(h), list(rows))


class Made(Webs):
    def test_a_new_web(self):
        web = Web(("b", "a"))
        self.assertEqual(state(web), (("b", "a"), 2000, [], 0, {"b": 0, "a": 0}, []))
        self.assertEqual((web.kept(), web.deeds(), web.log(), web.busy(), len(web)), (0, 0, [], False, 0))
        self.assertEqual(Web((), room=0).room(), 0)
        self.assertEqual(Web(TEN, room=2000).order(), TEN)

    def test_refused(self):
        self.assert_place(BadOrder, (1,), Web, ("a", "a"))
        self.assert_place(BadOrder, (), Web, TEN + ("k",))
        with self.assertRaises(BadOrder):
            Web(("a", "A"), room=-1)
        for room in (-1, 2001, True, False, None, "5", (5,), [5], GREAT, -GREAT):
            self.refused(BadQuestion, Web, AB, room=room)
        for kind, thing in nothings():
            with self.subTest(kind):
                self.refused(BadOrder, Web, thing)
                if type(thing) is not int or not 0 <= thing <= 2000:
                    self.refused(BadQuestion, Web, AB, room=thing)
        with self.assertRaises(TypeError):
            Web(AB, 5)

    def test_handles_rise_and_none_is_there_twice(self):
        web = self.two(room=3)
        self.refused(TooGreat, web.make, XOR)
        self.refused(NoSuch, web.contrary, 3)
        self.assertEqual(web.again(1), 3)
        web.let_go(3)
        web.let_go(1)
        self.assertEqual(web.make(OR), 4)
        self.assertEqual(web.handles(), [2, 4])


class Making(Webs):
    def test_make(self):
        web = Web(("b", "a", "c"))
        self.assertEqual([web.make(f) for f in (AND, YES, NO, ("if", A, B, C))], [1, 2, 3, 4])
        self.assert_rows(web, 1, ("a", "b"), ("a", "b", "c"))
        self.assertEqual(web.rows(2), all_rows(ABC))
        self.assert_rows(web, 3)
        self.assert_rows(web, 4, ("c",), ("a", "b"), ("b", "c"), ("a", "b", "c"))
        self.assert_place(BadFormula, (1,), web.make, ("and", name("z"), ("name", "")))
        self.assert_no_such("z", web.make, ("and", name("z"), name("y")))
        self.assert_no_such("y", web.make, ("or", ("and", name("y"), NO), name("z")))
        self.assert_no_such("y", web.make, ("some", "y", ("put", "z", A, B)))
        for kind, thing in nothings():
            with self.subTest(kind):
                self.refused(BadFormula, web.make, thing)

    def test_of_rows(self):
        web = Web(("b", "a"))
        self.assert_rows(web, web.of_rows(()))
        self.assert_rows(web, web.of_rows(((), ("b",))), (), ("b",))
        self.assertEqual(web.table(web.of_rows((("a", "b"),))), table_of(AND, ("b", "a")))
        every = tuple(all_rows(TEN))
        ten = Web(TEN[::-1])
        self.assertEqual(ten.many_rows(ten.of_rows(every)), 1024)
        self.assertEqual(ten.many(), 0)
        for rows in (
            None, [], {}, "", 5, True, [()], (5,), ("a",), (["a"],), (("c",),), (("b", "a"),), ((), ()),
            (("a",), ()), (("b",), ("a",)), (("a",), ("a",)), (("a", "b"), ("b",)), ((), ("a", "a")), (None,),
        ):
            self.refused(BadQuestion, web.of_rows, rows)
        for kind, thing in nothings():
            with self.subTest(kind):
                if thing != ((),):
                    self.refused(BadQuestion, web.of_rows, thing)
                self.refused(BadQuestion, web.of_rows, (thing,))
        self.refused(BadQuestion, ten.of_rows, every + ((),))

    def test_words_of_formulas(self):
        web = Web(ABC)
        a, b, c = web.make(A), web.make(B), web.make(C)
        for told, formula in [
            (web.contrary(a), ("not", A)), (web.both(a, b), AND), (web.either(a, b), OR), (web.unlike(a, b), XOR),
            (web.choice(a, b, c), ("if", A, B, C)), (web.again(b), B),
            (web.choice(c, a, b), ("if", C, A, B)),
        ]:
            self.assertTrue(web.is_one(told, web.make(formula)))

    def test_some_and_all_of(self):
        web = Web(ABC)
        h = web.make(("if", A, B, C))
        for names in ((), ("a",), ("c", "a"), ("a", "a"), ("b", "c", "b"), ABC, ("a",) * 5000):
            some = every = ("if", A, B, C)
            for one in names[:3]:
                some, every = ("some", one, some), ("all", one, every)
            self.assertTrue(web.is_one(web.some(h, names), web.make(some)))
            self.assertTrue(web.is_one(web.all_of(h, names), web.make(every)))
        self.assertTrue(web.is_one(web.some(h, ()), h))
        for call in (web.some, web.all_of):
            for thing in (None, "a", ["a"], {"a": 1}, 5, True):
                self.refused(BadQuestion, call, h, thing)
            for thing in ("z", "", 500, None, ["a"], ("a",), {}, True, deep(()), doubled(())):
                self.assert_no_such(thing, call, h, ("a", thing, "y"))
                self.assert_no_such(thing, call, thing, ["y"])
            self.assert_no_such(99, call, 99, None)

    def test_put_and_fixed(self):
        web = Web(ABC)
        h, k = web.make(("if", A, B, C)), web.make(("xor", A, C))
        self.assertTrue(web.is_one(web.put(h, "a", k), web.make(("put", "a", ("xor", A, C), ("if", A, B, C)))))
        self.assertTrue(web.is_one(web.put(h, "b", k), web.make(("put", "b", ("xor", A, C), ("if", A, B, C)))))
        self.assertTrue(web.is_one(web.fixed(h, "a", True), web.make(B)))
        self.assertTrue(web.is_one(web.fixed(h, "a", False), web.make(C)))
        self.assert_no_such(99, web.put, 99, "z", 98)
        self.assert_no_such("z", web.put, h, "z", 98)
        self.assert_no_such(98, web.put, h, "a", 98)
        self.assert_no_such(99, web.fixed, 99, "z", 1)
        self.assert_no_such("z", web.fixed, h, "z", 1)
        for thing in (1, 0, None, "True", (True,), [], deep(())):
            self.refused(BadQuestion, web.fixed, h, "a", thing)

    def test_within(self):
        web = Web(("b", "a"))
        f, c = web.make(A), web.make(XOR)
        # At () and (a, b) the nearest row of a ^ b differs in a alone, as b is above it.
        self.assertTrue(web.is_one(web.within(f, c), web.make(("not", B))))
        web.swap(0)
        self.assertTrue(web.is_one(web.within(f, c), f))
        self.assertTrue(web.is_one(web.within(f, web.make(YES)), f))
        self.assert_rows(web, web.within(f, web.of_rows((("a", "b"),))), (), ("a",), ("b",), ("a", "b"))
        self.assert_rows(web, web.within(f, web.of_rows((("b",),))))
        no = web.make(NO)
        self.refused(BadQuestion, web.within, f, no)
        self.assert_no_such(99, web.within, 99, no)
        self.assert_no_such(99, web.within, f, 99)

    def test_handles_that_arent_there(self):
        web = self.two()
        web.let_go(2)
        calls = [web.contrary, web.again, web.let_go, web.table, web.formula, web.hangs_on, web.many_rows,
                 web.first_row, web.rows, web.size]
        twos = [web.both, web.either, web.unlike, web.within, web.is_one, web.implies, web.apart_at]
        things = [thing for _, thing in nothings()] + [2, 3, -1, "1", (1,), GREAT, -GREAT]
        for thing in things:
            for call in calls:
                self.assert_no_such(thing, call, thing)
            for call in twos:
                self.assert_no_such(thing, call, thing, 99)
                self.assert_no_such(thing, call, 1, thing)
            self.assert_no_such(thing, web.choice, thing, 99, 98)
            self.assert_no_such(thing, web.choice, 1, thing, 98)
            self.assert_no_such(thing, web.choice, 1, 1, thing)
            self.assert_no_such(thing, web.is_yes, thing, 5)
            self.assert_no_such(thing, web.rows, thing, most=-1)
            self.assert_no_such(thing, web.some, thing, 5)
            self.assert_no_such(thing, web.put, thing, 5, 5)
            self.assert_no_such(thing, web.put, 1, "a", thing)
            self.assert_no_such(thing, web.fixed, thing, 5, 5)
        self.assertEqual(web.handles(), [1])

    def test_names_that_arent_there(self):
        web = self.two()
        for thing in [thing for _, thing in nothings()] + ["z", "", "ab", ("a",)]:
            self.assert_no_such(thing, web.put, 1, thing, 99)
            self.assert_no_such(thing, web.fixed, 1, thing, 99)
            self.assert_no_such(thing, web.some, 1, ("a", thing))
            self.assert_no_such(thing, web.move, thing, 99)
            self.assert_no_such(thing, web.sift, thing)
            self.assert_no_such(thing, web.drop_name, thing)


class Room(Webs):
    # a & b | c & d has 4 knots where those of a pair are near, else 6.
    PAIRS = ("or", ("and", A, B), ("and", C, name("d")))

    def test_too_great_tells_how_many_there_would_be(self):
        for room in (0, 1, 3):
            web = Web(("a", "c", "b", "d"), room=room)
            self.assertEqual(self.refused(TooGreat, web.make, self.PAIRS).knots, 4)
            self.assertEqual(state(web), state(Web(("a", "c", "b", "d"), room=room)))

    def test_sifted_only_where_there_isnt_room_as_it_is(self):
        for room, order in ((6, ("a", "c", "b", "d")), (2000, ("a", "c", "b", "d"))):
            web = Web(("a", "c", "b", "d"), room=room)
            web.make(self.PAIRS)
            self.assertEqual((web.order(), web.many()), (order, 6))
        for room in (4, 5):
            web = Web(("a", "c", "b", "d"), room=room)
            self.assertEqual(web.make(self.PAIRS), 1)
            self.assertEqual(web.many(), 4)
            self.assertNotEqual(web.order(), ("a", "c", "b", "d"))
            self.assert_rows(web, 1, ("a", "b"), ("c", "d"), ("a", "b", "c"), ("a", "b", "d"), ("a", "c", "d"),
                             ("b", "c", "d"), ("a", "b", "c", "d"))

    def test_refused_all_stands_as_ahead(self):
        web = self.two(room=4)
        self.assertEqual(web.many(), 3)
        ahead = state(web)
        for call in (lambda: web.make(("and", XOR, C)), lambda: web.of_rows(((), ("a", "b"), ("b", "c")))):
            knots = self.refused(TooGreat, call).knots
            self.assertGreater(knots, 4)
            self.assertEqual(state(web), ahead)
        self.assertEqual(web.make(B), 3)
        self.assertEqual(web.log()[4:], [("begun", 3), ("refused", 3), ("begun", 4), ("refused", 4),
                                         ("begun", 5), ("done", 5)])

    def test_what_needs_no_knot_more_is_never_too_great(self):
        web = Web(AB, room=0)
        self.assertEqual([web.make(YES), web.make(NO), web.of_rows(()), web.contrary(1), web.again(2)], [1, 2, 3, 4, 5])
        self.assertEqual(self.refused(TooGreat, web.make, A).knots, 1)
        web = Web(AB, room=2)
        web.make(AND)
        self.assertEqual([web.contrary(1), web.again(1), web.make(B), web.make(("not", B))], [2, 3, 4, 5])
        self.assertEqual(web.many(), 2)
        # a by itself is one knot more, by the order as it is and by the other one.
        self.assertEqual(self.refused(TooGreat, web.make, A).knots, 3)

    def test_orders_asked_for_are_refused_at_once(self):
        web = Web(("a", "b", "c", "d"), room=4)
        web.make(self.PAIRS)
        for call, handed in ((web.swap, (1,)), (web.to_order, (("a", "c", "b", "d"),)), (web.move, ("b", 2))):
            self.assertEqual(self.refused(TooGreat, call, *handed).knots, 6)
            self.assertEqual((web.order(), web.many()), (("a", "b", "c", "d"), 4))
        # Between them lie orders of 6, but what's asked for has 4.
        self.assertEqual(web.move("a", 1), 4)
        self.assertEqual(web.to_order(("c", "d", "b", "a")), 4)
        self.assertEqual(web.order(), ("c", "d", "b", "a"))

    def test_sifting_and_names_are_never_refused(self):
        web = Web(("a", "b", "c", "d"), room=4)
        web.make(self.PAIRS)
        self.assertEqual(web.sift("b"), 0)
        self.assertEqual(web.order(), ("b", "a", "c", "d"))
        web.sift_all()
        web.add_name("x", place=2)
        web.add_name("y", place=0)
        web.drop_name("x")
        self.assertEqual(web.many(), 4)

    def test_set_room(self):
        web = self.two()
        for room in (3, 2000, 5):
            self.assertIsNone(web.set_room(room))
            self.assertEqual(web.room(), room)
        for room in (2, 0, -1, 2001, True, None, "5", [5], GREAT, -GREAT):
            self.refused(BadQuestion, web.set_room, room)
            self.assertEqual(web.room(), 5)
        for kind, thing in nothings():
            with self.subTest(kind):
                self.refused(BadQuestion, web.set_room, thing)
        empty = Web(AB)
        empty.set_room(0)
        self.assertEqual(empty.room(), 0)


class Going(Webs):
    def test_let_go_and_collect(self):
        web = self.two()
        self.assertEqual((web.many(), web.by_name()), (3, {"a": 2, "b": 1, "c": 0}))
        self.assertIsNone(web.let_go(1))
        self.assertEqual((web.many(), web.handles()), (2, [2]))
        self.assertGreaterEqual(web.kept(), 2)
        told = web.collect()
        self.assertTrue(type(told) is int and told >= 0)
        self.assertEqual(web.kept(), 2)
        self.assert_no_such(1, web.let_go, 1)
        web.again(2)
        web.let_go(2)
        self.assertEqual(web.many(), 2)
        web.let_go(3)
        web.collect()
        self.assertEqual((web.many(), web.kept(), web.handles()), (0, 0, []))

    def test_knots_are_those_of_all_handles_contrary_ones_once(self):
        web = Web(AB)
        web.make(XOR)
        self.assertEqual(web.many(), 2)
        web.make(("not", XOR))
        web.make(B)
        web.make(("not", B))
        self.assertEqual(web.many(), 2)
        web.make(A)
        self.assertEqual(web.many(), 3)
        self.assertEqual([web.size(h) for h in web.handles()], [2, 2, 1, 1, 1])

    def test_room_is_made_by_letting_go(self):
        web = self.two(room=3)
        self.refused(TooGreat, web.make, XOR)
        web.let_go(1)
        self.refused(TooGreat, web.make, ("and", XOR, C))
        web.let_go(2)
        self.assertEqual(web.make(("and", XOR, C)), 3)


class Orders(Webs):
    def test_swap(self):
        web = self.two()
        self.assertEqual(web.swap(0), 3)
        self.assertEqual(web.order(), ("b", "a", "c"))
        self.assertEqual(web.swap(1), 3)
        self.assertEqual(web.order(), ("b", "c", "a"))
        for thing in [thing for _, thing in nothings() if thing != 0 or type(thing) is bool] + [2, 3, -1, GREAT]:
            self.refused(BadQuestion, web.swap, thing)
        for order in ((), ("a",)):
            for level in (0, -1, 1):
                self.refused(BadQuestion, Web(order).swap, level)

    def test_move(self):
        web = self.two()
        for which, place, order in [("a", 2, ("b", "c", "a")), ("a", 0, ABC), ("b", 1, ABC), ("c", 1, ("a", "c", "b"))]:
            self.assertEqual(web.move(which, place), 3)
            self.assertEqual(web.order(), order)
        for thing in [thing for _, thing in nothings() if thing != 0 or type(thing) is bool] + [3, 4, -1, GREAT]:
            self.refused(BadQuestion, web.move, "a", thing)
            self.assert_no_such("z", web.move, "z", thing)
        self.assert_no_such("a", Web(()).move, "a", 0)

    def test_to_order(self):
        web = self.two()
        self.assertEqual(web.to_order(("c", "b", "a")), 3)
        self.assertEqual(web.order(), ("c", "b", "a"))
        self.assert_place(BadOrder, (2,), web.to_order, ("x", "y", "y"))
        self.assert_place(BadOrder, (), web.to_order, ["a", "b", "c"])
        self.assert_no_such("c", web.to_order, ())
        self.assert_no_such("b", web.to_order, ("x", "a", "c"))
        self.assert_no_such("y", web.to_order, ("a", "b", "y", "c", "x"))
        for kind, thing in nothings():
            with self.subTest(kind):
                self.refused(BadOrder, web.to_order, thing)
        self.assertEqual(Web(()).to_order(()), 0)

    def test_add_name(self):
        web = self.two(AB)
        for which, named, order in [
            ("x", {}, ("a", "b", "x")), ("y", {"place": 0}, ("y", "a", "b", "x")),
            ("abcdefgh", {"place": 4}, ("y", "a", "b", "x", "abcdefgh")),
            ("z", {"place": 2}, ("y", "a", "z", "b", "x", "abcdefgh")),
            ("some", {"place": None}, ("y", "a", "z", "b", "x", "abcdefgh", "some")),
        ]:
            self.assertIsNone(web.add_name(which, **named))
            self.assertEqual(web.order(), order)
            self.assertEqual((web.hangs_on(1), web.hangs_on(2), web.many()), (AB, AB, 3))
            self.assertEqual((web.first_row(1), web.first_row(2)), (AB, ("a",)))
            self.assertEqual(web.table(1), table_of(AND, AB))
        for thing in [thing for _, thing in nothings()] + ["", "A", "abcdefghi", "a", "x", "a b"]:
            self.refused(BadQuestion, web.add_name, thing)
            self.refused(BadQuestion, web.add_name, thing, place=0)
        for place in [thing for _, thing in nothings() if thing is not None and thing != 0] + [False, 8, -1, -GREAT]:
            self.refused(BadQuestion, web.add_name, "q", place=place)
        with self.assertRaises(TypeError):
            web.add_name("q", 0)

    def test_the_tenth_name_and_the_eleventh(self):
        web = Web(TEN[:9])
        web.make(AND)
        web.add_name("j", place=9)
        self.assertEqual((web.order(), web.many_rows(1)), (TEN, 256))
        for place in (None, 0, 10):
            self.refused(BadQuestion, web.add_name, "k", place=place)
        web.drop_name("j")
        web.add_name("k", place=0)
        self.assertEqual(web.order(), ("k",) + TEN[:9])

    def test_drop_name(self):
        web = Web(("x", "a", "y", "b", "z"))
        web.make(XOR)
        for which, order in [("y", ("x", "a", "b", "z")), ("x", ("a", "b", "z")), ("z", AB)]:
            self.assertIsNone(web.drop_name(which))
            self.assertEqual((web.order(), web.rows(1), web.many()), (order, web.rows(1), 2))
        self.assert_rows(web, 1, ("a",), ("b",))
        self.assertEqual(self.refused(HangsOn, web.drop_name, "a").name, "a")
        self.assertEqual(self.refused(HangsOn, web.drop_name, "b").name, "b")
        web.let_go(1)
        web.make(B)
        web.drop_name("a")
        web.let_go(2)
        web.drop_name("b")
        self.assertEqual(web.order(), ())


class Asked(Webs):
    def test_table_and_formula_by_the_order(self):
        web = Web(("c", "b", "a"))
        for formula in (YES, NO, AND, ("not", OR), ("if", A, B, C)):
            h = web.make(formula)
            for order in (ABC, ("b", "c", "a"), ("c", "b", "a")):
                web.to_order(order)
                self.assertEqual(repr(web.table(h)), repr(table_of(formula, order)))
        web = Web(AB)
        self.assertEqual(web.formula(web.make(YES)), YES)
        self.assertEqual(web.formula(web.make(NO)), ("not", YES))
        self.assertEqual(web.formula(web.make(("not", A))), ("not", ("if", A, YES, ("not", YES))))

    def test_is_yes(self):
        web = self.two()
        for row in all_rows(ABC):
            self.assertIs(web.is_yes(1, row), "a" in row and "b" in row)
            self.assertIs(web.is_yes(2, row), "a" in row or "b" in row)
        for row in (None, ["a"], "a", ("z",), ("b", "a"), ("a", "a"), (5,), (("a",),), {}, 1, True):
            self.refused(BadQuestion, web.is_yes, 1, row)
            self.assert_no_such(3, web.is_yes, 3, row)
        for kind, thing in nothings():
            with self.subTest(kind):
                self.refused(BadQuestion, web.is_yes, 1, thing)

    def test_two_handles(self):
        web = self.two()
        k = web.make(("not", ("or", ("not", A), ("not", B))))
        self.assertIs(web.is_one(1, k), True)
        self.assertIs(web.is_one(1, 2), False)
        self.assertIs(web.implies(1, 2), True)
        self.assertIs(web.implies(2, 1), False)
        self.assertIs(web.implies(1, k), True)
        self.assertIs(web.implies(web.make(NO), 1), True)
        self.assertEqual(web.apart_at(1, 2), ("a",))
        self.assertIsNone(web.apart_at(1, k))
        self.assertEqual(web.apart_at(1, web.contrary(1)), ())

    def test_rows_stand_in_their_own_order(self):
        web = Web(("c", "b", "a"))
        h = web.make(("or", A, ("or", B, C)))
        self.assertEqual(web.rows(h), all_rows(ABC)[1:])
        self.assertEqual(web.first_row(h), ("a",))
        self.assertEqual(web.apart_at(h, web.make(A)), ("b",))
        self.assertEqual(web.many_rows(h), 7)
        self.assertIsNone(web.first_row(web.make(NO)))
        self.assertEqual(web.first_row(web.make(YES)), ())
        self.assertEqual(web.hangs_on(h), ("c", "b", "a"))
        self.assertEqual(web.hangs_on(web.make(AND)), ("b", "a"))
        self.assertEqual(web.hangs_on(web.make(("or", A, ("not", A)))), ())

    def test_rows_so_many(self):
        web = Web(TEN)
        h = web.make(YES)
        every = all_rows(TEN)
        self.assertEqual(web.rows(h), every)
        for most in (0, 1, 2, 1023, 1024):
            self.assertEqual(web.rows(h, most=most), every[:most])
        for most in (-1, 1025, True, False, None, "5", (5,), GREAT, -GREAT):
            self.refused(BadQuestion, web.rows, h, most=most)
            self.assert_no_such(9, web.rows, 9, most=most)
        for kind, thing in nothings():
            with self.subTest(kind):
                if type(thing) is not int or not 0 <= thing <= 1024:
                    self.refused(BadQuestion, web.rows, h, most=thing)
        with self.assertRaises(TypeError):
            web.rows(h, 5)

    def test_counts(self):
        web = Web(("c", "a", "b"))
        self.assertEqual(list(web.by_name().items()), [("c", 0), ("a", 0), ("b", 0)])
        web.make(("if", A, B, C))
        self.assertEqual(list(web.by_name().items()), [("c", 1), ("a", 2), ("b", 1)])
        self.assertEqual((web.many(), web.size(1)), (4, 4))
        web.make(C)
        self.assertEqual((web.many(), web.size(2)), (5, 1))
        self.assertEqual(Web(()).by_name(), {})

    def test_lists_and_dicts_are_new_each_time(self):
        web = self.two()
        for call in (web.handles, web.log, web.by_name, lambda: web.rows(1)):
            told, kept = call(), call()
            told.clear()
            self.assertEqual(call(), kept)
            self.assertNotEqual(call(), told)
        order = web.order()
        web.swap(0)
        self.assertEqual(order, ABC)


class Deeds(Webs):
    def test_each_deed_is_put_down_done_or_refused(self):
        for word, handed in DONE:
            web = self.two()
            web.make(("and", A, NO))
            log = web.log()
            getattr(web, word)(*handed)
            self.assertEqual(web.log(), log + [("begun", 4), ("done", 4)], word)
            self.assertEqual((web.deeds(), web.busy()), (4, False))
        for word, handed in REFUSED:
            web = self.two()
            ahead, log = state(web), web.log()
            with self.assertRaises((BadFormula, BadOrder, BadQuestion, NoSuch, HangsOn)):
                getattr(web, word)(*handed)
            self.assertEqual(web.log(), log + [("begun", 3), ("refused", 3)], word)
            self.assertEqual((web.deeds(), web.busy()), (3, False))
            self.assertEqual(state(web), ahead)
            self.assertEqual(web.make(A), 3)
        self.assertEqual({word for word, _ in REFUSED} | {"collect", "sift_all"}, {word for word, _ in DONE})

    def test_asking_is_no_deed(self):
        web = self.two()
        log = web.log()
        for word, handed in ASKING:
            getattr(web, word)(*handed)
        for word, handed in [("table", (9,)), ("rows", (None,)), ("is_yes", (1, 5)), ("is_one", (1, 9))]:
            with self.assertRaises((NoSuch, BadQuestion)):
                getattr(web, word)(*handed)
        str(web), repr(web), len(web), web == web
        self.assertEqual((web.log(), web.deeds()), (log, 2))
        words = {word for word, _ in DONE + ASKING}
        self.assertEqual(words, {word for word in vars(Web) if not word.startswith("_")})

    def test_refused_by_an_argument_of_any_kind(self):
        web = self.two()
        ahead = state(web)
        begun = 2
        for kind, thing in nothings():
            for word, handed in REFUSED:
                with self.subTest(kind=kind, word=word):
                    # These are none that the deed refuses.
                    if (word, kind) in [("swap", "number"), ("of_rows", "tuple of tuple")]:
                        continue
                    with self.assertRaises((BadFormula, BadOrder, BadQuestion, NoSuch, HangsOn)):
                        getattr(web, word)(*(thing,) * len(handed))
                    begun += 1
                    self.assertEqual(web.log()[-2:], [("begun", begun), ("refused", begun)])
                    self.assertIs(web.busy(), False)
        self.assertEqual(state(web), ahead)


class AsAThing(Webs):
    def test_copy(self):
        web = self.two(room=7)
        web.let_go(1)
        other = web.copy()
        self.assertEqual(state(other), state(web))
        self.assertEqual((other.log(), other.deeds()), (web.log(), web.deeds()))
        self.assertEqual(other.make(AND), 3)
        self.assertEqual(web.handles(), [2])
        self.assertEqual(web.deeds(), 3)
        web.swap(0)
        web.set_room(9)
        web.add_name("x")
        self.assertEqual((other.order(), other.room()), (ABC, 7))
        self.assertEqual(web.make(A), 3)
        self.assert_rows(other, 3, ("a", "b"), ("a", "b", "c"))
        other.let_go(2)
        self.assertEqual(web.handles(), [2, 3])

    def test_equality(self):
        web, other = self.two(), Web(ABC, room=5)
        self.assertFalse(web == other)
        other.make(("not", ("or", ("not", A), ("not", B))))
        self.assertTrue(web != other)
        other.make(("not", ("and", ("not", A), ("not", B))))
        self.assertTrue(web == other)
        self.assertFalse(web != other)
        other.make(A)
        self.assertFalse(web == other)
        other.let_go(3)
        self.assertTrue(web == other)
        other.swap(1)
        self.assertFalse(web == other)
        other.swap(1)
        other.let_go(2)
        other.make(OR)
        self.assertFalse(web == other)
        self.assertTrue(Web(()) == Web((), room=0))
        self.assertFalse(Web(()) == Web(("a",)))
        for kind, thing in nothings() + [("text", str(web)), ("handles", web.handles())]:
            with self.subTest(kind):
                self.assertIs(web == thing, False)
                self.assertIs(web != thing, True)

    def test_text_and_length(self):
        web = Web(ABC)
        self.assertEqual((str(web), repr(web), len(web)), ("0 handles, 0 knots", "Web(0 handles, 0 knots)", 0))
        web.make(A)
        self.assertEqual((str(web), repr(web), len(web)), ("1 handles, 1 knots", "Web(1 handles, 1 knots)", 1))
        web.make(AND)
        web.make(AND)
        self.assertEqual((str(web), repr(web), len(web)), ("3 handles, 3 knots", "Web(3 handles, 3 knots)", 3))
        self.assertEqual(f"{web}", "3 handles, 3 knots")


if __name__ == "__main__":
    unittest.main()
