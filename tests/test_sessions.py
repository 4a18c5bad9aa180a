import unittest

from knotweb.errors import (
    BadDeed, BadFormula, BadOrder, BadQuestion, HangsOn, NoSuch, TooGreat,
)
from knotweb.formulas import NO, YES
from knotweb.formulatexts import read_formula
from knotweb.sessions import Session
from knotweb.tables import formula_of, need_table, table_of
from tests.plain import chances, deep, doubled, name, nothings, random_formula
from tests.plainsession import PlainSession, deed_form
from tests.plainweb import Refusal, table
from tests.refusing import Refusing

A, B, C = name("a"), name("b"), name("c")
AB = ("a", "b")
ABC = ("a", "b", "c")
TEN = tuple("abcdefghij")
GREAT = 10 ** 3999
F, G = name("f"), name("g")
# A FORMULA, and the NAME that isn't there: f and g are bound, a and b are of the ORDER.
BOUND_ELSEWHERE = (
    (("some", "f", YES), "f"), (("all", "g", A), "g"), (("put", "f", YES, A), "f"), (("some", "f", F), "f"),
    (("all", "f", ("name", "z")), "f"), (("put", "g", ("some", "f", A), F), "g"), (("some", "a", ("all", "g", B)), "g"),
    (("put", "a", ("put", "g", A, B), ("some", "f", A)), "g"), (("put", "a", G, ("some", "f", A)), "f"),
    (("if", F, ("not", G), ("or", G, ("some", "g", F))), "g"), (("and", ("name", "z"), ("some", "f", A)), "z"),
    (("and", ("some", "f", A), ("name", "z")), "f"), (("xor", F, ("all", "z", ("all", "f", A))), "z"),
)
KINDS = {"NoSuch": NoSuch, "BadQuestion": BadQuestion, "TooGreat": TooGreat, "HangsOn": HangsOn, "BadDeed": BadDeed}
FIELDS = {"NoSuch": "name", "TooGreat": "knots", "HangsOn": "name", "BadDeed": "place"}


def bind(which, text):
    return ("bind", which, read_formula(text))


class Sessions(Refusing):
    def session(self, order, *deeds, room=2000):
        session = Session(order, room=room)
        for deed in deeds:
            self.assertIsNone(session.do(deeds=(deed,)))
        return session

    def assert_deed(self, session, place, deeds):
        told = self.refused(BadDeed, session.do, deeds=deeds)
        self.assertEqual(repr(told.place), repr(place))

    def stand(self, session):
        """All that a session tells, but for its log and what can be undone."""
        return (session.order(), session.room(), session.bound(), session.many())


class Made(Sessions):
    def test_a_new_session(self):
        session = Session(("b", "a"))
        self.assertEqual(self.stand(session), (("b", "a"), 2000, {}, 0))
        self.assertEqual((session.log(), session.undone(), session.busy(), len(session)), ([], 0, False, 0))
        self.assertEqual((str(session), repr(session)), ("0 bound, 0 knots", "Session(0 bound, 0 knots)"))
        self.assertEqual(Session((), room=0).room(), 0)
        self.assertEqual(Session(TEN, room=2000).order(), TEN)

    def test_refused(self):
        self.assert_place(BadOrder, (1,), Session, ("a", "a"))
        self.assert_place(BadOrder, (), Session, TEN + ("k",))
        with self.assertRaises(BadOrder):
            Session(("a", "A"), room=-1)
        for room in (-1, 2001, True, False, None, "5", (5,), [5], GREAT, -GREAT):
            self.refused(BadQuestion, Session, AB, room=room)
        for kind, thing in nothings():
            with self.subTest(kind):
                self.refused(BadOrder, Session, thing)
                if type(thing) is not int or not 0 <= thing <= 2000:
                    self.refused(BadQuestion, Session, AB, room=thing)
        with self.assertRaises(TypeError):
            Session(AB, 5)

    def test_deeds_are_handed_in_by_their_name_alone(self):
        with self.assertRaises(TypeError):
            Session(AB).do((("sift",),))


class Forms(Sessions):
    def test_no_deeds(self):
        session = Session(AB)
        fine = ("sift",)
        for thing in [(), None, [fine], "sift", 5, True, {}, {0: fine}, (fine,) * 9, {fine}]:
            self.assert_deed(session, (), thing)
        session.do(deeds=(fine,) * 8)
        session.do(deeds=(fine,))
        self.assert_deed(session, (0,), ("sift",))

    def test_deeds_that_are_none_by_their_form(self):
        session = self.session(AB, bind("f", "a"))
        ahead = self.stand(session)
        for thing in [
            None, (), [], ["sift"], "sift", 5, ("sift", "a"), ("sift", None), ("Sift",), ("undo",), ("fixed", "a"),
            (5,), ([],), ({},),
            (None,), (True,), (("sift",),), ("bind",), ("bind", "g"), ("bind", "g", A, A), ("bind", "G", A),
            ("bind", "", A),
            ("bind", "abcdefghi", A), ("bind", 5, A), ("bind", ["g"], A), ("bind", "g", 5),
            ("bind", "g", ("name", "A")),
            ("bind", "g", ("not", 5)), ("bind", "g", "a"), ("free",), ("free", "a", "b"), ("free", "A"), ("free", None),
            ("free", ("f",)), ("order",), ("order", "a", "b"), ("order", ["a"]), ("order", ("a", "a")),
            ("order", ("A",)),
            ("order", TEN + ("k",)), ("order", None), ("order", "ab"), ("name",), ("name", "a1"), ("name", "x", "y"),
            ("name", 5),
            ("room",), ("room", -1), ("room", 2001), ("room", True), ("room", None), ("room", "5"), ("room", GREAT),
            ("room", -GREAT),
            ("room", 1, 2), ("room", (1,)), deep(()), doubled(()), deep(("free",)), ("bind", "g", deep(("not",))),
            ("order", doubled(())), ("free", deep(())),
        ]:
            self.assertFalse(deed_form(thing))
            self.assert_deed(session, (0,), (thing,))
            self.assert_deed(session, (1,), (("sift",), thing, 5))
            # The form goes ahead of all else.
            self.assert_deed(session, (1,), (("free", "z"), thing))
        for kind, thing in nothings():
            with self.subTest(kind):
                if type(thing) is not tuple:
                    self.assert_deed(session, (), thing)
                for deed in [thing, ("bind", thing, A), ("bind", "g", thing), ("free", thing), ("order", thing),
                    ("name", thing),
                             (thing, "a"), (thing,), ("sift", thing)]:
                    self.assert_deed(session, (0,), (deed,))
                if type(thing) is not int or not 0 <= thing <= 2000:
                    self.assert_deed(session, (0,), (("room", thing),))
        self.assertEqual(self.stand(session), ahead)
        self.assertEqual({entry[2] for entry in session.log() if entry[0] == "refused"}, {-1})

    def test_rooms_and_orders_at_their_edges(self):
        session = self.session((), ("room", 0), ("room", 2000), ("order", TEN), ("order", ()), ("order", ("z", "word")))
        self.assertEqual((session.order(), session.room()), (("z", "word"), 2000))


class Bind(Sessions):
    def test_a_bound_name_stands_for_its_function(self):
        session = self.session(AB, bind("f", "a & b"), bind("g", "!f | a"), bind("h", "f ^ g"))
        self.assertEqual(session.bound(), {
            "f": table_of(read_formula("a & b"), AB), "g": table_of(YES, AB),
            "h": table_of(read_formula("!(a & b)"), AB)})
        self.assertEqual(list(session.bound()), ["f", "g", "h"])
        self.assertEqual((session.many(), len(session)), (2, 3))
        self.assertEqual((str(session), repr(session)), ("3 bound, 2 knots", "Session(3 bound, 2 knots)"))

    def test_as_it_is_then(self):
        session = self.session(AB, bind("f", "a"), bind("g", "f & b"), bind("f", "b"))
        self.assertEqual(session.table(name("g")), table_of(read_formula("a & b"), AB))
        session.do(deeds=(("free", "f"),))
        self.assertEqual(session.table(name("g")), table_of(read_formula("a & b"), AB))

    def test_also_its_own_old_function(self):
        session = self.session(AB, bind("f", "a"), bind("f", "!f & b"), bind("f", "f | f ^ a"))
        self.assertEqual(session.table(name("f")), table_of(read_formula("!a & b | a ^ (!a & b)"), AB))

    def test_within_some_and_all_and_put(self):
        session = self.session(ABC, bind("f", "a & b"))
        for text, told in [
            ("some a f", "b"), ("all a f", "0"), ("a := c in f", "c & b"), ("a := f in f", "a & b"),
            ("b := 1 in f | c", "a | c"), ("some a some b f", "1"), ("all c (f | c)", "a & b"),
        ]:
            with self.subTest(text):
                self.assertEqual(session.table(read_formula(text)), table_of(read_formula(told), ABC))

    def test_refused(self):
        session = self.session(AB, bind("f", "a"))
        self.refused(BadQuestion, session.do, deeds=(("bind", "a", name("z")),))
        self.assert_lacks("z", session.do, deeds=(bind("g", "f & z | y"),))
        self.assert_lacks("y", session.do, deeds=(bind("g", "f & a | y & z"),))
        self.assert_lacks("g", session.do, deeds=(bind("g", "g"),))
        self.assert_lacks("z", session.do, deeds=(bind("g", "some z f"),))
        self.assertEqual(list(session.bound()), ["f"])

    def test_a_bound_name_stands_behind_name_alone(self):
        session = self.session(AB, bind("f", "a & b"), bind("g", "a"))
        ahead = self.stand(session)
        for formula, which in BOUND_ELSEWHERE:
            with self.subTest(formula=formula):
                for deed in (("bind", "h", formula), ("bind", "f", formula), ("bind", which, formula)):
                    told = self.refused(NoSuch, session.do, deeds=(("sift",), deed))
                    self.assertEqual(told.name, which)
                    self.assertEqual(session.log()[-1][2], 1)
                self.assert_lacks(which, session.table, formula)
                self.assert_lacks(which, session.is_same, formula, name("z"))
                self.assert_lacks(which, session.is_same, name("g"), formula)
        self.assertEqual((self.stand(session), session.undone()), (ahead, 2))
        # A NAME of ORDER goes ahead of what's wrong in the FORMULA, also where it's told there.
        self.refused(BadQuestion, session.do, deeds=(("bind", "a", ("some", "f", A)),))

    def test_behind_some_a_name_is_bound_or_free_by_the_deeds_ahead(self):
        session = Session(AB)
        some_f = ("some", "f", ("name", "f"))
        self.assert_lacks("f", session.table, some_f)
        told = self.refused(NoSuch, session.do, deeds=(bind("f", "a"), ("bind", "g", some_f)))
        self.assertEqual((told.name, session.log()[-1], len(session)), ("f", ("refused", 1, 1), 0))
        session.do(deeds=(bind("f", "a"), ("free", "f"), ("name", "f"), ("bind", "g", some_f)))
        self.assertEqual(session.table(name("g")), table_of(YES, AB))
        session.undo()
        session.do(deeds=(bind("f", "a & b"), bind("g", "some a f"), bind("h", "all b (f | g ^ a ^ b)")))
        self.assertEqual(session.table(name("g")), table_of(B, AB))
        self.assertEqual(session.table(name("h")), table_of(A, AB))

    def test_sifted_where_there_is_no_room(self):
        session = self.session(("a", "c", "b", "d"), bind("f", "a & b | c & d"), room=5)
        self.assertEqual((session.order(), session.many()), (("a", "b", "d", "c"), 4))
        self.assertEqual(session.table(name("f")), table_of(read_formula("a & b | c & d"), ("a", "b", "d", "c")))
        ahead = self.stand(session)
        told = self.refused(TooGreat, session.do, deeds=(bind("g", "a & c | b & d"),))
        self.assertGreater(told.knots, 5)
        self.assertEqual(self.stand(session), ahead)

    def test_the_old_function_goes_ahead_of_room(self):
        session = self.session(AB, bind("f", "a & b"), room=2)
        self.assertEqual(self.refused(TooGreat, session.do, deeds=(bind("g", "a ^ b"),)).knots, 3)
        session.do(deeds=(bind("f", "a ^ b"),))
        self.assertEqual(session.many(), 2)
        # Refused, the old one stands as ahead.
        session = self.session(ABC, bind("f", "a & b"), room=2)
        self.assertEqual(self.refused(TooGreat, session.do, deeds=(bind("f", "a & b & c"),)).knots, 3)
        self.assertEqual(session.table(name("f")), table_of(read_formula("a & b"), ABC))

    def test_room_of_just_as_many_and_of_one_fewer(self):
        for many, fine in ((3, True), (2, False)):
            session = Session(ABC, room=many)
            if fine:
                session.do(deeds=(bind("f", "a & b & c"),))
            else:
                self.assertEqual(self.refused(TooGreat, session.do, deeds=(bind("f", "a & b & c"),)).knots, 3)
            self.assertEqual(len(session), int(fine))
        session = Session((), room=0)
        session.do(deeds=(bind("f", "1"), bind("g", "!f"), ("name", "a"), bind("h", "a | !a")))
        self.assertEqual((session.many(), len(session)), (0, 3))
        self.assertEqual(self.refused(TooGreat, session.do, deeds=(bind("h", "a"),)).knots, 1)


class OtherDeeds(Sessions):
    def test_free(self):
        session = self.session(AB, bind("f", "a"), bind("g", "a & b"), ("free", "f"))
        self.assertEqual((list(session.bound()), session.many()), (["g"], 2))
        for which in ("f", "a", "z"):
            self.assert_lacks(which, session.do, deeds=(("free", which),))
        session.do(deeds=(("free", "g"),))
        self.assertEqual((session.bound(), session.many()), ({}, 0))

    def test_order(self):
        session = self.session(ABC, bind("f", "a & b"), bind("g", "b"))
        session.do(deeds=(("order", ("z", "b", "a")),))
        self.assertEqual(session.order(), ("z", "b", "a"))
        self.assertEqual(session.table(name("f")), table_of(read_formula("a & b"), ("b", "a")))
        self.assertEqual(self.refused(HangsOn, session.do, deeds=(("order", ("z", "x")),)).name, "b")
        self.assertEqual(self.refused(HangsOn, session.do, deeds=(("order", ("b",)),)).name, "a")
        self.assertEqual(self.refused(HangsOn, session.do, deeds=(("order", ()),)).name, "b")
        self.refused(BadQuestion, session.do, deeds=(("order", ("a", "b", "g")),))
        self.refused(BadQuestion, session.do, deeds=(("order", ("g",)),))
        session.do(deeds=(("free", "f"), ("order", ("b", "f"))))
        self.assertEqual((session.order(), session.many()), (("b", "f"), 1))

    def test_order_that_needs_more_room_is_refused_at_once(self):
        session = self.session(("a", "b", "c", "d"), bind("f", "a & b | c & d"), room=5)
        self.assertEqual(self.refused(TooGreat, session.do, deeds=(("order", ("a", "c", "b", "d")),)).knots, 6)
        self.assertEqual(session.order(), ("a", "b", "c", "d"))
        session.do(deeds=(("order", ("d", "c", "b", "a")),))
        session.do(deeds=(("room", 6), ("order", ("a", "c", "b", "d"))))
        self.assertEqual((session.many(), session.room()), (6, 6))

    def test_sift(self):
        session = self.session(("a", "c", "b", "d"), bind("f", "a & b | c & d"))
        self.assertEqual(session.many(), 6)
        session.do(deeds=(("sift",),))
        self.assertEqual((session.many(), session.order()), (4, ("a", "b", "d", "c")))
        self.assertEqual(self.session(ABC, ("sift",)).order(), ("c", "b", "a"))
        self.assertEqual(self.session((), ("sift",)).order(), ())

    def test_name(self):
        session = self.session((), ("name", "b"), ("name", "a"))
        self.assertEqual(session.order(), ("b", "a"))
        session.do(deeds=(bind("f", "a & b"), ("name", "x")))
        self.assertEqual((session.order(), session.table(name("f"))),
            (("b", "a", "x"), table_of(read_formula("a & b"), ("b", "a"))))
        for which in ("a", "f"):
            self.refused(BadQuestion, session.do, deeds=(("name", which),))
        session.do(deeds=tuple(("name", which) for which in "cdeghij"))
        self.assertEqual(len(session.order()), 10)
        for which in ("k", "a", "f"):
            self.refused(BadQuestion, session.do, deeds=(("name", which),))
        session.do(deeds=(("order", ("a", "b")), ("name", "k")))
        self.assertEqual(session.order(), ("a", "b", "k"))

    def test_room(self):
        session = self.session(AB, bind("f", "a & b"))
        self.refused(BadQuestion, session.do, deeds=(("room", 1),))
        session.do(deeds=(("room", 2),))
        self.assertEqual(session.room(), 2)
        self.refused(BadQuestion, session.do, deeds=(("room", 0),))
        session.do(deeds=(("free", "f"), ("room", 0)))
        self.assertEqual(session.room(), 0)


class Together(Sessions):
    def test_each_as_things_stand_behind_those_ahead(self):
        session = Session(())
        session.do(deeds=(("name", "a"), bind("f", "a"), ("name", "b"), bind("g", "f & b"), ("free", "f"),
            ("order", ("b", "a")),
                          ("name", "f"), ("room", 2)))
        self.assertEqual((session.order(), session.room(), list(session.bound())), (("b", "a", "f"), 2, ["g"]))

    def test_all_or_none(self):
        start = (bind("f", "a & b"), bind("g", "b | c"))
        for deeds, kind, at in [
            ((bind("h", "a"), bind("f", "c"), ("free", "g"), ("free", "g")), NoSuch, 3),
            ((("order", ("c", "b", "a", "z")), ("name", "y"), bind("h", "y"), ("room", 5), ("name", "h")), BadQuestion,
            4),
            ((("sift",), bind("f", "0"), ("order", ("c", "b")), ("order", ("b",))), HangsOn, 3),
            ((("free", "f"), ("free", "g"), ("order", ()), ("room", 0), ("name", "a"), bind("g", "a")), TooGreat, 5),
            ((("room", 4), ("name", "d"), bind("h", "a & d"), bind("k", "z")), TooGreat, 2),
            ((("room", 6), bind("a", "z")), BadQuestion, 1), ((("room", 0),), BadQuestion, 0),
        ]:
            session = self.session(ABC, *start)
            ahead = self.stand(session)
            with self.subTest(deeds=deeds):
                self.refused(kind, session.do, deeds=deeds)
                self.assertEqual(self.stand(session), ahead)
                self.assertEqual(session.log()[-2:], [("begun", 3), ("refused", 3, at)])
                self.assertEqual((session.undone(), session.busy()), (2, False))

    def test_log(self):
        session = self.session(AB, bind("f", "a"))
        self.refused(BadDeed, session.do, deeds=())
        self.refused(BadDeed, session.do, deeds=(("sift",), 5))
        self.refused(NoSuch, session.do, deeds=(("sift",), ("free", "g")))
        session.undo()
        session.do(deeds=(("sift",), ("sift",)))
        self.assertEqual(session.log(), [
            ("begun", 1), ("done", 1), ("begun", 2), ("refused", 2, -1), ("begun", 3), ("refused", 3, -1),
            ("begun", 4), ("refused", 4, 1), ("begun", 5), ("done", 5)])
        session.log().clear()
        self.assertEqual(len(session.log()), 10)

    def test_undo(self):
        session = Session(())
        self.refused(BadQuestion, session.undo)
        stands = [self.stand(session)]
        for deeds in [
            (("name", "a"), ("name", "b")), (bind("f", "a & b"),), (bind("f", "!f"), bind("g", "f ^ a")),
            (("order", ("b", "z", "a")),),
            (("room", 4),), (("free", "f"), bind("f", "z & a"), ("sift",), ("free", "g")), (("sift",),),
            (("free", "f"), ("order", ())),
        ]:
            session.do(deeds=deeds)
            stands.append(self.stand(session))
            self.refused(NoSuch, session.do, deeds=(("sift",), ("room", 9), ("free", "zz")))
            self.assertEqual(self.stand(session), stands[-1])
        self.assertEqual(session.undone(), 8)
        for many in range(8, 0, -1):
            self.assertEqual(session.undone(), many)
            self.assertEqual(self.stand(session), stands[many])
            self.assertIsNone(session.undo())
            self.assertEqual(self.stand(session), stands[many - 1])
        self.refused(BadQuestion, session.undo)
        self.assertEqual((session.undone(), session.order()), (0, ()))

    def test_undone_and_gone_on(self):
        session = self.session(AB, bind("f", "a"), bind("f", "b"))
        session.undo()
        session.do(deeds=(bind("g", "f"),))
        self.assertEqual((session.undone(), list(session.bound())), (2, ["f", "g"]))
        session.undo()
        session.undo()
        self.assertEqual((session.undone(), session.bound()), (0, {}))


class Asked(Sessions):
    def test_is_same_and_table(self):
        session = self.session(AB, bind("f", "a & b"))
        self.assertIs(session.is_same(name("f"), read_formula("!(!a | !b)")), True)
        self.assertIs(session.is_same(name("f"), A), False)
        self.assertEqual(session.table(read_formula("f | a")), table_of(A, AB))
        told = session.table(name("f"))
        self.assertIs(need_table(AB, told), told)

    def test_refused(self):
        session = self.session(AB, bind("f", "a & b"))
        self.assert_place(BadFormula, (0,), session.is_same, ("not", 5), 5)
        self.assert_place(BadFormula, (0,), session.is_same, name("z"), ("not", 5))
        self.assert_lacks("z", session.is_same, read_formula("f | z & y"), name("x"))
        self.assert_lacks("x", session.is_same, name("f"), read_formula("x & z"))
        self.assert_place(BadFormula, (0,), session.table, ("not", 5))
        self.assert_lacks("y", session.table, read_formula("a ^ y ^ z"))
        self.assert_lacks("z", session.table, read_formula("some z f"))
        for kind, thing in nothings():
            with self.subTest(kind):
                self.refused(BadFormula, session.is_same, thing, thing)
                self.refused(BadFormula, session.is_same, A, thing)
                self.refused(BadFormula, session.table, thing)
        self.assertEqual((session.log(), session.undone()), ([("begun", 1), ("done", 1)], 1))

    def test_equal_by_order_and_room_and_bindings_alone(self):
        session = self.session(AB, bind("f", "a & b"), bind("g", "a"))
        other = self.session(AB, bind("g", "a | a"), bind("h", "b"), bind("f", "b & g"), ("free", "h"), ("sift",),
            ("order", AB))
        self.assertIs(session == other, True)
        self.assertIs(session != other, False)
        for deed in [bind("f", "a | b"), ("free", "g"), bind("k", "0"), ("room", 1999), ("order", ("b", "a")),
            ("name", "x")]:
            other.do(deeds=(deed,))
            self.assertIs(session == other, False)
            other.undo()
            self.assertIs(session == other, True)
        for thing in (None, 5, "Session", (), Session):
            self.assertIs(session == thing, False)

    def test_copies_go_on_by_themselves(self):
        session = self.session(AB, bind("f", "a & b"), bind("g", "a"))
        self.refused(BadDeed, session.do, deeds=())
        other = session.copy()
        self.assertIs(session == other, True)
        self.assertEqual((other.log(), other.undone()), (session.log(), 2))
        self.assertEqual((self.stand(other), str(other)), (self.stand(session), "2 bound, 3 knots"))
        other.do(deeds=(("room", 3),))
        self.assertEqual(self.refused(TooGreat, other.do, deeds=(bind("h", "a ^ b"), bind("k", "a | b"))).knots, 4)
        other.undo()
        other.undo()
        other.do(deeds=(bind("k", "f"), ("name", "x")))
        self.assertEqual((list(session.bound()), session.order(), session.undone(), len(session.log())),
            (["f", "g"], AB, 2, 6))
        session.undo()
        session.undo()
        session.do(deeds=(("room", 0),))
        self.assertEqual((list(other.bound()), other.room(), other.undone(), len(other.log())),
            (["f", "k"], 2000, 2, 12))
        other.undo()
        other.undo()
        self.assertEqual((other.bound(), other.order(), other.undone()), ({}, AB, 0))

    def test_what_is_told_is_the_askers_own(self):
        session = self.session(AB, bind("f", "a & b"))
        session.bound().clear()
        self.assertEqual(list(session.bound()), ["f"])

    def test_two_sessions_have_nothing_in_common(self):
        first, second = Session(AB), Session(AB)
        first.do(deeds=(bind("f", "a"), ("room", 5)))
        self.assertEqual((second.bound(), second.room(), second.log(), second.undone()), ({}, 2000, [], 0))


class Drawn(Sessions):
    """Long drawn rows of deeds, held against the plain session and one made anew."""

    def deed(self, chance, plain, wrong):
        bound, order = list(plain.functions), list(plain.order)
        free = [which for which in "fghk" if which not in bound]
        word = chance.choice(["bind"] * 6 + ["free", "order", "order", "sift", "name", "room"])
        if chance.random() < wrong:
            return chance.choice([("free", "zz"), ("name", (order + bound + ["q"])[0]), ("room", 0),
                ("order", tuple(bound[:1])),
                                  ("bind", (order + ["q"])[0], A), ("bind", "f", name("zz")), ("sift", 5), 5,
                                  ("order", ())])
        if word == "bind":
            names = order + bound
            moved = names if chance.random() < wrong else order
            formula = chance.choice([YES, NO])
            if names:
                formula = random_formula(chance, names, chance.choice([1, 2, 3]), moved)
            return ("bind", chance.choice(free + bound), formula)
        if word == "free":
            return ("free", chance.choice(bound or ["f"]))
        if word == "order":
            names = order + [which for which in "ab" if which not in order and chance.random() < 0.7]
            chance.shuffle(names)
            if len(names) > 4 or chance.random() < 0.2:
                names = names[1:]
            return ("order", tuple(names))
        if word == "name":
            return ("name", chance.choice(["a", "b", "c", "d"]) if len(order) < 4 else "a")
        if word == "room":
            return ("room", chance.choice([plain.many(), plain.many() + 1, plain.many() + 2, 2000, 3, 5]))
        return ("sift",)

    def assert_alike(self, session, plain, deeds):
        expected = plain.do(deeds)
        if expected is None:
            self.assertIsNone(session.do(deeds=deeds))
            return None
        told = self.refused(KINDS[expected.kind], session.do, deeds=deeds)
        if expected.kind in FIELDS:
            self.assertEqual(repr(getattr(told, FIELDS[expected.kind])), repr(expected.field))
        return expected.kind

    def look(self, session, plain):
        """Holds the whole against the plain session."""
        self.assertEqual(session.order(), plain.order)
        self.assertEqual(session.room(), plain.room)
        self.assertEqual(session.many(), plain.many())
        self.assertEqual(list(session.bound().items()),
                         [(one, table(plain.functions[one], plain.order)) for one in sorted(plain.functions)])
        self.assertEqual(session.log(), plain.log)
        self.assertEqual(session.undone(), len(plain.done))
        self.assertIs(session.busy(), False)
        self.assertEqual(len(session), len(plain.functions))
        self.assertEqual(str(session), f"{len(plain.functions)} bound, {plain.many()} knots")

    def anew(self, session):
        """A session made anew by bindings, order and room."""
        order = session.order()
        made = Session(order)
        for one, its in session.bound().items():
            formula = formula_of(order, its)
            if len(its[1]) < 4:
                made.do(deeds=(("bind", one, formula),))
            else:
                # Such a formula may be too great to be bound at once, so it's bound knot by knot.
                self.bind_by_knots(made, one, order, its)
        made.do(deeds=(("room", session.room()),))
        return made

    def bind_by_knots(self, made, one, order, its):
        def part(edge):
            number, flip = edge
            whole = YES if number < 0 else name(helper(number))
            return ("not", whole) if flip else whole

        def helper(number):
            return "help" + "".join("abcdefghij"[int(figure)] for figure in str(number))

        for which in sorted(order, key=order.index, reverse=True):
            for number, (its_name, high, low) in enumerate(its[1]):
                if its_name == which:
                    made.do(deeds=(("bind", helper(number), ("if", name(which), part(high), part(low))),))
        made.do(deeds=(("bind", one, part(its[0])),))
        for number in range(len(its[1])):
            made.do(deeds=(("free", helper(number)),))

    def test_long_rows(self):
        chance = chances(121)
        kinds = {}
        for _ in range(60):
            order = tuple(chance.sample("abcd", chance.choice([0, 2, 3, 4])))
            room = chance.choice([0, 2, 3, 4, 5, 6, 2000])
            session, plain = Session(order, room=room), PlainSession(order, room)
            for _ in range(30):
                if chance.random() < 0.15:
                    if plain.undo():
                        session.undo()
                    else:
                        self.refused(BadQuestion, session.undo)
                else:
                    deeds = tuple(self.deed(chance, plain, 0.05) for _ in range(chance.choice([1, 1, 1, 2, 3])))
                    kind = self.assert_alike(session, plain, deeds)
                    kinds[kind] = kinds.get(kind, 0) + 1
                self.look(session, plain)
            made = self.anew(session)
            self.assertIs(made == session, True)
            self.assertEqual(self.stand(made), self.stand(session))
            for _ in range(6):
                deeds = tuple(self.deed(chance, plain, 0.05) for _ in range(chance.choice([1, 2])))
                outcomes = []
                for one in (session, made):
                    try:
                        outcomes.append(one.do(deeds=deeds))
                    except (BadDeed, BadQuestion, NoSuch, HangsOn, TooGreat) as error:
                        outcomes.append((type(error), str(error)))
                plain.do(deeds)
                self.assertEqual(outcomes[0], outcomes[1])
                self.assertEqual(self.stand(made), self.stand(session))
        for kind in (None, "NoSuch", "BadQuestion", "TooGreat", "HangsOn", "BadDeed"):
            self.assertGreater(kinds.get(kind, 0), 15, kind)

    def test_questions_of_drawn_sessions(self):
        chance = chances(122)
        lacking = {}
        for _ in range(60):
            order = tuple(chance.sample("abcd", 3))
            session, plain = Session(order), PlainSession(order)
            for which in "fgh":
                formula = random_formula(chance, list(order) + list(plain.functions), 3, order)
                self.assert_alike(session, plain, (("bind", which, formula),))
            for _ in range(8):
                names = list(order) + ["f", "g", "h"] + (["z"] if chance.random() < 0.2 else [])
                moved = names if chance.random() < 0.3 else order
                first, second = [random_formula(chance, names, chance.choice([1, 2, 3]), moved) for _ in range(2)]
                try:
                    expected = plain.table(first)
                    same = plain.table(second) == expected
                except Refusal as refusal:
                    self.assertEqual(refusal.kind, "NoSuch")
                    self.assert_lacks(refusal.field, session.is_same, first, second)
                    lacking[refusal.field] = lacking.get(refusal.field, 0) + 1
                    continue
                self.assertEqual(session.table(first), expected)
                self.assertIs(session.is_same(first, second), same)
        for which in "fghz":
            self.assertGreater(lacking.get(which, 0), 10, which)


if __name__ == "__main__":
    unittest.main()
