import unittest
from itertools import permutations

from knotweb.errors import BadFamily, BadOrder, BadSheet
from knotweb.families import family_of, need_family, need_sheet, sheet_of
from tests.plain import all_rows, chances, deep, doubled, nothings
from tests.plainweb import family_refusal, family_sheet, functions_of, row_key, sheet_refusal
from tests.refusing import Refusing

AB = ("a", "b")
ABC = ("a", "b", "c")
TEN = tuple("abcdefghij")
GREAT = 10 ** 3999


def in_order(rows):
    return tuple(sorted(rows, key=row_key))


class NeedFamily(Refusing):
    def test_families_are_told_themselves(self):
        for order, family in [
            ((), ()), ((), ((),)), (AB, ()), (AB, ((), ("a",), ("b",), ("a", "b"))), (("b", "a"), (("a",), ("b",))),
            (("c", "a", "b"), (("c",), ("a", "b"), ("a", "c"), ("b", "c"), ("a", "b", "c"))),
            (("abcdefgh", "z"), (("abcdefgh", "z"),)),
        ]:
            self.assertIs(need_family(order, family), family)
        every = tuple(all_rows(TEN))
        self.assertEqual(len(every), 1024)
        self.assertIs(need_family(TEN[::-1], every), every)

    def test_refused_at_the_first_that_is_wrong(self):
        for family, place in [
            ([], ()), (None, ()), ("ab", ()), ({}, ()), (True, ()), (deep({}), (0,)),
            (("a",), (0,)), ((["a"],), (0,)), ((("c",),), (0,)), (((), ("b", "a")), (1,)), ((("a", "a"),), (0,)),
            (((), ()), (1,)), ((("a",), ()), (1,)), ((("b",), ("a",)), (1,)), ((("a",), ("a",)), (1,)),
            ((("a", "b"), ("b",)), (1,)), (((), ("a",), ("b",), ("a",), 5), (3,)), (((), 5, ()), (1,)),
            ((("a",), ("b",), ("a", "b"), ("a", "b")), (3,)), (((), (5,)), (1,)), (((), ("a", None)), (1,)),
            ((("a",), deep(())), (1,)), ((("a",), doubled(())), (1,)),
        ]:
            for call in (need_family, sheet_of):
                with self.subTest(family=place):
                    self.assert_place(BadFamily, place, call, AB, family)
        every = tuple(all_rows(TEN))
        self.assert_place(BadFamily, (1024,), need_family, TEN, every + every)
        self.assert_place(BadFamily, (1024,), need_family, TEN, every + (5,) * 3000)

    def test_order_ahead_of_family(self):
        for call in (need_family, sheet_of):
            self.assert_place(BadOrder, (1,), call, ("a", "a"), 5)
            self.assert_place(BadOrder, (), call, TEN + ("k",), ())
            for kind, thing in nothings():
                with self.subTest(kind):
                    self.refused(BadOrder, call, thing, thing)
                    place = family_refusal(AB, thing)
                    if place is not None:
                        self.assert_place(BadFamily, place, call, AB, thing)
                    self.assert_place(BadFamily, (1,), call, AB, ((), thing))


class SheetOf(Refusing):
    def test_of_a_few(self):
        self.assertEqual(sheet_of((), ()), (-2, ()))
        self.assertEqual(sheet_of((), ((),)), (-1, ()))
        self.assertEqual(sheet_of(AB, ()), (-2, ()))
        self.assertEqual(sheet_of(AB, ((),)), (-1, ()))
        self.assertEqual(sheet_of(AB, (("a",),)), (0, (("a", -1, -2),)))
        self.assertEqual(sheet_of(AB, ((), ("b",))), (0, (("b", -1, -1),)))
        self.assertEqual(sheet_of(AB, (("a",), ("b",))), (0, (("a", -1, 1), ("b", -1, -2))))
        self.assertEqual(sheet_of(("b", "a"), (("a",), ("b",))), (0, (("b", -1, 1), ("a", -1, -2))))
        self.assertEqual(sheet_of(AB, ((), ("a",), ("b",), ("a", "b"))), (0, (("a", 1, 1), ("b", -1, -1))))
        self.assertEqual(sheet_of(ABC, (("c",), ("a", "b"), ("a", "c"))), (
            0, (("a", 1, 2), ("b", -1, 2), ("c", -1, -2))))

    def test_all_families_of_three_names_by_all_orders(self):
        for order in permutations("abc"):
            for rows in functions_of(order):
                family = in_order(rows)
                sheet = sheet_of(order, family)
                self.assertEqual(sheet, family_sheet(rows, order))
                self.assertIs(need_sheet(order, sheet), sheet)
                self.assertEqual(family_of(order, sheet), family)

    def test_drawn_families_of_many_names(self):
        chance = chances(21)
        for many in (4, 5, 6, 10):
            for _ in range(12):
                order = tuple(chance.sample(TEN, many))
                share = chance.choice([0.05, 0.5, 0.9]) if many < 10 else 0.05
                family = in_order(row for row in all_rows(order) if chance.random() < share)
                sheet = sheet_of(order, family)
                self.assertEqual(sheet, family_sheet(family, order))
                self.assertEqual(family_of(order, sheet), family)

    def test_the_greatest(self):
        every = tuple(all_rows(TEN))
        sheet = sheet_of(TEN, every)
        self.assertEqual(len(sheet[1]), 10)
        self.assertEqual(family_of(TEN, sheet), every)
        chance = chances(22)
        half = tuple(row for row in every if chance.random() < 0.5)
        self.assertEqual(family_of(TEN, sheet_of(TEN, half)), half)


def mutated(sheet):
    """A sheet with one thing otherwise, for many such."""
    edge, triples = sheet
    ends = [*range(-3, len(triples) + 2), None, True, False, "0", (0, False), [0], GREAT, -GREAT]
    for end in ends:
        yield (end, triples)
    for number, knot in enumerate(triples):
        ahead, behind = triples[:number], triples[number + 1:]
        for one in ("a", "b", "c", "d", "", "A", None, 5, ["a"], ("a",)):
            yield (edge, (*ahead, (one, *knot[1:]), *behind))
        for end in ends:
            yield (edge, (*ahead, (knot[0], end, knot[2]), *behind))
            yield (edge, (*ahead, (knot[0], knot[1], end), *behind))
        for other in (knot[:2], (*knot, -1), list(knot), None, (), knot[::-1]):
            yield (edge, (*ahead, other, *behind))
        yield (edge, ahead + behind)
        yield (edge, (*ahead, knot, knot, *behind))
        yield (edge, (*behind, *ahead, knot))
    for other in triples:
        yield (edge, (*triples, other))
        yield (edge, (other, *triples))
    yield (edge, (*triples, ("b", -1, -1)))
    yield (edge, triples[::-1])
    yield (edge, list(triples))
    yield [edge, triples]
    yield (edge,)
    yield (edge, triples, ())


class NeedSheet(Refusing):
    def test_sheets_are_told_themselves(self):
        for order, sheet in [
            ((), (-2, ())), ((), (-1, ())), (AB, (-2, ())), (AB, (0, (("a", -1, -1),))),
            (AB, (0, (("a", 1, 1), ("b", -1, -1)))), (AB, (0, (("a", 1, -2), ("b", -1, -2)))),
        ]:
            self.assertIs(need_sheet(order, sheet), sheet)

    def test_one_thing_otherwise_against_the_plain_look(self):
        fine = 0
        for order in (("a",), AB, ("b", "a")):
            for rows in functions_of(order):
                fine += self.look_at(order, family_sheet(rows, order))
        chance = chances(23)
        for _ in range(60):
            order = chance.choice([("c", "a", "b"), ("b", "d", "c", "a")])
            rows = [row for row in all_rows(order) if chance.random() < 0.4]
            fine += self.look_at(order, family_sheet(rows, order))
        self.assertGreater(fine, 200)

    def look_at(self, order, whole):
        """Holds need_sheet and family_of against the plain look; tells how many were sheets."""
        fine = 0
        for thing in mutated(whole):
            place = sheet_refusal(order, thing)
            if place is not None:
                self.assert_place(BadSheet, place, need_sheet, order, thing)
                self.assert_place(BadSheet, place, family_of, order, thing)
                continue
            fine += 1
            self.assertIs(need_sheet(order, thing), thing)
            self.assertEqual(family_sheet(family_of(order, thing), order), thing)
        return fine

    def test_kinds_of_places_go_one_behind_the_other(self):
        fine = ("b", -1, -2)
        for place, edge, triples in [
            (("edge",), -3, (5,)), (("edge",), 1, (fine,)), (("edge",), True, (fine, fine)), (("edge",), 0, ()),
            ((0,), 0, (("a", -2, -1), fine)), ((0,), 0, (("a", -1, -3),)), ((0,), 0, (("a", -1, 2), fine)),
            ((1,), 0, (fine, ("x", -1, -1))), ((1,), 0, (("a", 0, 0), ("b", -1, True))),
            (("beneath", 0), 0, (("a", 0, -1),)), (("beneath", 0), 0, (("b", 1, -1), ("a", -1, -1), fine, fine)),
            (("beneath", 1), 0, (("a", -1, -1), ("b", -1, 2), fine)),
            (("twice", 2), 0, (("a", -1, 1), fine, fine)), (("twice", 1), 1, (fine, fine)),
            (("met", 0), 1, (fine, ("a", 0, -1))), (("met", 1), 0, (fine, ("a", 0, -1))),
            (("met", 0), -1, (fine,)), (("met", 0), -2, (fine,)),
            (("met", 1), 0, (("a", 2, 1), fine, ("b", -1, -1))),
        ]:
            with self.subTest(place=place, edge=edge, triples=triples):
                self.assertEqual(sheet_refusal(AB, (edge, triples)), place)
                self.assert_place(BadSheet, place, need_sheet, AB, (edge, triples))

    def test_two_thousand_knots_can_be_looked_at_but_no_more(self):
        knot = ("a", -1, -2)
        self.assert_place(BadSheet, ("twice", 1), need_sheet, ("a",), (0, (knot,) * 2000))
        self.assert_place(BadSheet, (), need_sheet, ("a",), (0, (knot,) * 2001))
        self.assert_place(BadSheet, ("edge",), need_sheet, ("a",), (2000, (5,) * 2000))
        self.assert_place(BadSheet, (1999,), need_sheet, ("a",), (1999, (knot,) * 1999 + (5,)))

    def test_anything_is_refused(self):
        for call in (need_sheet, family_of):
            self.assert_place(BadOrder, (1,), call, ("a", "a"), 5)
            for kind, thing in nothings():
                with self.subTest(kind):
                    self.refused(BadOrder, call, thing, thing)
                    self.assert_place(BadSheet, sheet_refusal(AB, thing), call, AB, thing)
                    if type(thing) is not tuple:
                        self.assert_place(BadSheet, (), call, AB, (0, thing))
                    if type(thing) is not int or abs(thing) > 5:
                        self.assert_place(BadSheet, ("edge",), call, AB, (thing, (("a", -1, -1),)))
                        for at in range(3):
                            knot = ["a", -1, -1]
                            knot[at] = thing
                            self.assert_place(BadSheet, (0,), call, AB, (0, (tuple(knot),)))
                    self.assert_place(BadSheet, (0,), call, AB, (0, (thing,)))


if __name__ == "__main__":
    unittest.main()
