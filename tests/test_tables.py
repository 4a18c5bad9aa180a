import unittest
from itertools import permutations

from knotweb.errors import BadFormula, BadOrder, BadQuestion, BadTable
from knotweb.formulas import NO, YES, hangs_on, is_yes
from knotweb.tables import MOST_KNOTS, at_row, formula_of, knots_by, need_table, table_of
from tests.plain import all_rows, chances, deep, doubled, name, nothings, plain_yes, random_formula
from tests.plainweb import functions_of, knots, name_counts, table, table_refusal, function_of
from tests.refusing import Refusing

A, B, C = name("a"), name("b"), name("c")
AB = ("a", "b")
TEN = tuple("abcdefghij")
XOR = ((0, True), (("a", (1, False), (1, True)), ("b", (-1, False), (-1, True))))
AND = ((0, False), (("a", (1, False), (-1, True)), ("b", (-1, False), (-1, True))))
YES_TABLE = ((-1, False), ())
NO_TABLE = ((-1, True), ())
GREAT = 10 ** 3999


def formula_by_rows(function, names):
    """Some formula that is yes at just these rows of at most three names."""
    whole = NO
    for row in function:
        part = YES
        for one in names:
            part = ("and", part, name(one) if one in row else ("not", name(one)))
        whole = ("or", whole, part)
    return whole


def parity(names):
    whole = name(names[0])
    for one in names[1:]:
        whole = ("xor", whole, name(one))
    return whole


class TableOf(Refusing):
    def test_of_yes_and_no(self):
        for order in ((), ("a",), TEN):
            self.assertEqual(repr(table_of(YES, order)), repr(YES_TABLE))
            self.assertEqual(repr(table_of(NO, order)), repr(NO_TABLE))
        self.assertEqual(table_of(("or", A, ("not", A)), ()), YES_TABLE)
        self.assertEqual(table_of(("and", A, ("not", A)), ("b",)), NO_TABLE)

    def test_of_a_few(self):
        self.assertEqual(repr(table_of(A, ("a",))), repr(((0, False), (("a", (-1, False), (-1, True)),))))
        self.assertEqual(repr(table_of(("not", A), ("a",))), repr(((0, True), (("a", (-1, False), (-1, True)),))))
        self.assertEqual(repr(table_of(("and", A, B), AB)), repr(AND))
        self.assertEqual(repr(table_of(("xor", A, B), AB)), repr(XOR))
        self.assertEqual(table_of(("or", A, B), ("b", "a")), (
            (0, False), (("b", (-1, False), (1, False)), ("a", (-1, False), (-1, True)))))
        self.assertEqual(table_of(("if", A, B, C), ("a", "b", "c")), ((0, False), (
            ("a", (1, False), (2, False)), ("b", (-1, False), (-1, True)), ("c", (-1, False), (-1, True)))))

    def test_knots_are_met_high_ahead_of_low_and_once(self):
        formula = ("if", A, ("and", B, C), ("or", ("and", B, C), name("d")))
        self.assertEqual(table_of(formula, ("a", "b", "c", "d")), ((0, False), (
            ("a", (1, False), (3, False)),
            ("b", (2, False), (-1, True)),
            ("c", (-1, False), (-1, True)),
            ("b", (4, False), (5, False)),
            ("c", (-1, False), (5, False)),
            ("d", (-1, False), (-1, True)))))

    def test_all_functions_of_three_names_by_all_orders(self):
        names = ("a", "b", "c")
        for function in functions_of(names):
            formula = formula_by_rows(function, names)
            if len(function) > 4:
                formula = ("not", formula_by_rows(frozenset(all_rows(names)) - function, names))
            for order in permutations(names):
                self.assertEqual(repr(table_of(formula, order)), repr(table(function, order)))

    def test_drawn_formulas_by_drawn_orders(self):
        chance = chances(11)
        for _ in range(600):
            names = chance.choice(["ab", "abcd", "bcde"])
            formula = random_formula(chance, names, chance.choice([2, 4, 6]))
            order = [one for one in "abcdef" if one in hangs_on(formula) or chance.random() < 0.5]
            chance.shuffle(order)
            order = tuple(order)
            every = order + tuple(one for one in names if one not in order)
            whole = table(function_of(formula, every), every)
            self.assertEqual(repr(table_of(formula, order)), repr(whole))
            self.assertEqual(need_table(order, whole), whole)

    def test_order_may_have_more_names_and_lack_those_it_doesnt_hang_on(self):
        formula = ("or", ("and", A, C), ("and", A, ("not", C)))
        self.assertEqual(table_of(formula, ("a",)), table_of(A, ("a",)))
        self.assertEqual(table_of(formula, TEN[::-1]), table_of(A, ("a",)))
        self.assertEqual(table_of(("some", "a", ("and", A, B)), ("x", "b")), table_of(B, ("b",)))

    def test_ten_names(self):
        for order in (TEN, TEN[::-1]):
            told = table_of(parity(TEN), order)
            self.assertEqual(len(told[1]), 10)
            self.assertEqual(told[0], (0, True))
            self.assertEqual([knot[0] for knot in told[1]], list(order))
        pairs = [("and", name(TEN[at]), name(TEN[at + 5])) for at in range(5)]
        whole = pairs[0]
        for pair in pairs[1:]:
            whole = ("or", whole, pair)
        near = tuple(one for at in range(5) for one in (TEN[at], TEN[at + 5]))
        self.assertEqual(len(table_of(whole, near)[1]), 10)
        self.assertEqual(len(table_of(whole, TEN)[1]), 62)

    def test_refused(self):
        self.assert_place(BadFormula, (1,), table_of, ("and", A, 5), ("a", 7))
        self.assert_place(BadOrder, (1,), table_of, A, ("b", "b"))
        self.assert_place(BadOrder, (0,), table_of, A, ("B",))
        self.assert_place(BadOrder, (), table_of, A, ["a"])
        self.assert_place(BadOrder, (), table_of, A, TEN + ("k",))
        self.assert_no_such("a", table_of, A, ())
        self.assert_no_such("b", table_of, ("and", C, ("and", B, A)), ("a",))
        self.assert_no_such("b", table_of, ("and", C, ("or", B, ("and", A, NO))), ())
        for kind, thing in nothings():
            with self.subTest(kind):
                self.refused(BadFormula, table_of, thing, 5)
                self.refused(BadOrder, table_of, A, thing)


def mutated(whole):
    """A table with one thing otherwise, for many such."""
    edge, triples = whole
    many = len(triples)
    ends = [(number, flip) for number in range(-2, many + 1) for flip in (False, True)]
    ends += [(0, 0), (-1, 1), (True, False), (GREAT, False), (-GREAT, True), (0,), (0, True, 0), [0, True], None, -1]
    for end in ends:
        yield (end, triples)
    for number, knot in enumerate(triples):
        ahead, behind = triples[:number], triples[number + 1:]
        for one in ("a", "b", "c", "d", "", "A", None, 5, ["a"], ("a",)):
            yield (edge, (*ahead, (one, *knot[1:]), *behind))
        for end in ends:
            yield (edge, (*ahead, (knot[0], end, knot[2]), *behind))
            yield (edge, (*ahead, (knot[0], knot[1], end), *behind))
        for other in (knot[:2], (*knot, 5), list(knot), None, (), knot[::-1]):
            yield (edge, (*ahead, other, *behind))
        yield (edge, ahead + behind)
        yield (edge, (*ahead, knot, knot, *behind))
        yield (edge, (*behind, *ahead, knot))
    for other in triples:
        yield (edge, (*triples, other))
        yield (edge, (other, *triples))
    yield (edge, (*triples, ("b", (-1, False), (-1, True))))
    yield (edge, triples[::-1])
    yield (edge, list(triples))
    yield [edge, triples]
    yield (edge,)
    yield (edge, triples, ())


def can_be_mutated(thing):
    """Whether a thing looks enough like a table to have one thing more otherwise."""
    if type(thing) is not tuple or len(thing) != 2 or type(thing[1]) is not tuple:
        return False
    return all(type(knot) is tuple and len(knot) == 3 for knot in thing[1])


class NeedTable(Refusing):
    def test_tables_are_told_themselves(self):
        for whole in (YES_TABLE, NO_TABLE, AND, XOR):
            self.assertIs(need_table(AB, whole), whole)
        self.assertIs(need_table((), YES_TABLE), YES_TABLE)
        self.assertIs(need_table(("c", "a", "d", "b"), AND), AND)

    def test_each_function_has_just_one_and_each_table_is_told(self):
        for order in permutations("abc"):
            for function in functions_of(order):
                whole = table(function, order)
                self.assertIs(need_table(order, whole), whole)

    def test_one_thing_otherwise_against_the_plain_look(self):
        fine = 0
        for order in (("a",), AB, ("b", "a")):
            for function in functions_of(order):
                fine += self.look_at(order, table(function, order))
        self.assertGreater(fine, 100)

    def test_one_thing_otherwise_in_tables_of_three_and_four_names(self):
        chance = chances(12)
        for _ in range(40):
            order = chance.choice([("a", "b", "c"), ("c", "a", "b"), ("b", "d", "c", "a")])
            self.look_at(order, table(function_of(random_formula(chance, order, 5), order), order))

    def test_two_things_otherwise(self):
        chance = chances(13)
        order = ("b", "a", "c")
        for _ in range(60):
            whole = table(function_of(random_formula(chance, order, 5), order), order)
            some = [one for one in mutated(whole) if can_be_mutated(one)]
            for one in chance.sample(some, min(8, len(some))):
                self.look_at(order, one)

    def look_at(self, order, whole):
        """Holds need_table against the plain look; tells how many were tables."""
        fine = 0
        for thing in mutated(whole):
            place = table_refusal(order, thing)
            if place is not None:
                self.assert_place(BadTable, place, need_table, order, thing)
                continue
            fine += 1
            self.assertIs(need_table(order, thing), thing)
            function = frozenset(row for row in all_rows(order) if at_row(order, thing, row))
            self.assertEqual(repr(table(function, order)), repr(thing))
        return fine

    def test_kinds_of_places_go_one_behind_the_other(self):
        end, other = (-1, False), (-1, True)
        fine = ("b", end, other)
        for place, edge, triples in [
            (("edge",), (3, False), (5, 5)), (("edge",), (2, False), (fine, 5)), (("edge",), (-2, False), ()),
            (("edge",), (-1, 0), ()), (("edge",), (False, False), (fine,)), (("edge",), (0, 1), (fine,)),
            ((1,), (0, False), (("b", (0, False), other), ("x", end, other))),
            ((0,), (0, False), (("a", end, (2, True)), fine)), ((0,), (0, False), (("a", end, (-2, True)), fine)),
            ((0,), (0, False), (("a", (1, True), other), fine)), ((0,), (0, False), (("a", end, end), fine)),
            ((0,), (0, False), (("a", (1, False), (1, False)), fine)),
            ((1,), (0, False), (("a", (0, False), other), ("b", end, (-1, 1)))),
            (("beneath", 1), (0, False), (fine, ("b", (0, False), (0, True)), fine)),
            (("beneath", 0), (0, False), (("b", end, (1, True)), ("a", end, other), ("a", end, other))),
            (("beneath", 0), (0, False), (("a", (0, False), other),)),
            (("twice", 2), (0, False), (("a", end, (1, True)), fine, fine)),
            (("twice", 1), (1, False), (fine, fine)),
            (("met", 0), (1, False), (fine, ("a", (0, False), other))),
            (("met", 1), (0, False), (fine, ("a", (0, False), other))),
            (("met", 0), end, (fine,)),
            (("met", 1), (0, True), (("a", (2, False), (1, True)), fine, ("b", end, (-1, True)))[:2] + (
                ("c", end, other),)),
        ]:
            with self.subTest(place=place, edge=edge, triples=triples):
                order = ("a", "b", "c")
                self.assertEqual(table_refusal(order, (edge, triples)), place)
                self.assert_place(BadTable, place, need_table, order, (edge, triples))

    def test_two_thousand_knots_can_be_looked_at_but_no_more(self):
        knot = ("a", (-1, False), (-1, True))
        self.assert_place(BadTable, ("twice", 1), need_table, ("a",), ((0, False), (knot,) * MOST_KNOTS))
        self.assert_place(BadTable, (), need_table, ("a",), ((0, False), (knot,) * (MOST_KNOTS + 1)))
        self.assert_place(BadTable, (), need_table, ("a",), (5, (5,) * 2001))
        self.assert_place(BadTable, ("edge",), need_table, ("a",), (5, (5,) * 2000))
        self.assert_place(BadTable, ("edge",), need_table, ("a",), ((2000, False), (knot,) * 2000))
        self.assert_place(BadTable, (1999,), need_table, ("a",), ((1999, False), (knot,) * 1999 + (5,)))
        self.assertEqual(MOST_KNOTS, 2000)

    def test_anything_is_refused(self):
        for kind, thing in nothings():
            with self.subTest(kind):
                self.refused(BadOrder, need_table, thing, thing)
                self.assert_place(BadTable, table_refusal(AB, thing), need_table, AB, thing)
                self.assert_place(BadTable, (), need_table, AB, (AND[0], thing, ()))
                if type(thing) is not tuple:
                    self.assert_place(BadTable, (), need_table, AB, (AND[0], thing))
                self.assert_place(BadTable, ("edge",), need_table, AB, (thing, AND[1]))
                if type(thing) is not int:
                    self.assert_place(BadTable, ("edge",), need_table, AB, ((thing, False), AND[1]))
                if type(thing) is not bool:
                    self.assert_place(BadTable, ("edge",), need_table, AB, ((0, thing), AND[1]))
                for at in range(2):
                    for part in range(3):
                        triples = list(AND[1])
                        knot = list(triples[at])
                        knot[part] = thing
                        triples[at] = tuple(knot)
                        self.assert_place(BadTable, (at,), need_table, AB, (AND[0], tuple(triples)))
                    triples[at] = thing
                    self.assert_place(BadTable, (at,), need_table, AB, (AND[0], tuple(triples)))


class Asked(Refusing):
    def test_at_row_of_all_functions_of_three_names(self):
        for order in (("a", "b", "c"), ("b", "c", "a")):
            for function in functions_of(order):
                whole = table(function, order)
                for row in all_rows(order):
                    self.assertIs(at_row(order, whole, row), row in function)
        self.assertIs(at_row((), YES_TABLE, ()), True)
        self.assertIs(at_row((), NO_TABLE, ()), False)
        self.assertIs(at_row(("a", "x", "b"), AND, ("a", "b", "x")), True)

    def test_at_row_refuses_what_is_no_row_of_the_order(self):
        for row in (("c",), ("b", "a"), ("a", "a"), ["a"], None, "a", ("a", 5), (("a",),), ("a", "b", "c"), {}):
            self.refused(BadQuestion, at_row, AB, AND, row)
        for kind, thing in nothings():
            with self.subTest(kind):
                self.refused(BadQuestion, at_row, AB, AND, thing)

    def test_all_refuse_orders_then_tables_ahead_of_their_own(self):
        for call in (need_table, formula_of, knots_by, lambda order, table: at_row(order, table, 5)):
            self.assert_place(BadOrder, (1,), call, ("a", "a"), 5)
            self.assert_place(BadOrder, (), call, None, AND)
            self.assert_place(BadTable, (), call, AB, 5)
            self.assert_place(BadTable, (0,), call, ("b",), AND)
            self.assert_place(BadTable, ("beneath", 0), call, ("b", "a"), AND)
            self.assert_place(BadTable, ("met", 0), call, AB, ((-1, True), AND[1]))
            for kind, thing in nothings():
                with self.subTest(kind):
                    self.refused(BadOrder, call, thing, AND)
                    self.refused(BadTable, call, AB, thing)

    def test_formula_of(self):
        self.assertEqual(formula_of((), YES_TABLE), YES)
        self.assertEqual(formula_of((), NO_TABLE), ("not", YES))
        self.assertEqual(formula_of(("a",), table_of(A, ("a",))), ("if", A, YES, ("not", YES)))
        self.assertEqual(formula_of(("a",), table_of(("not", A), ("a",))), ("not", ("if", A, YES, ("not", YES))))
        inner = ("if", B, YES, ("not", YES))
        self.assertEqual(formula_of(AB, AND), ("if", A, inner, ("not", YES)))
        self.assertEqual(formula_of(AB, XOR), ("not", ("if", A, inner, ("not", inner))))

    def test_formula_of_is_of_the_same_function(self):
        for order in permutations("abc"):
            for function in functions_of(order):
                told = formula_of(order, table(function, order))
                self.assertEqual(frozenset(row for row in all_rows(order) if plain_yes(told, row)), function)

    def test_formula_of_may_be_greater_than_a_formula(self):
        told = formula_of(TEN, table_of(parity(TEN), TEN))
        self.refused(BadFormula, is_yes, told, ())
        self.assertEqual(told[0], "not")
        depth = 0
        while told != YES:
            told = told[1] if told[0] == "not" else told[2]
            depth += 1
        self.assertEqual(depth, 11)

    def test_knots_by(self):
        self.assertEqual(list(knots_by(("c", "a", "b"), AND).items()), [("c", 0), ("a", 1), ("b", 1)])
        self.assertEqual(knots_by((), YES_TABLE), {})
        for order in permutations("abc"):
            for function in functions_of(order):
                whole = table(function, order)
                counts = knots_by(order, whole)
                self.assertEqual(list(counts.items()), list(name_counts([function], order).items()))
                self.assertEqual(sum(counts.values()), len(knots(function, order)))
        told = knots_by(AB, AND)
        told["a"] = 7
        self.assertEqual(knots_by(AB, AND), {"a": 1, "b": 1})

    def test_deep_things_in_every_place(self):
        for thing in (deep(()), doubled(()), deep((1,)), doubled((True,))):
            self.refused(BadTable, need_table, AB, thing)
            self.assert_place(BadTable, (0,), need_table, AB, ((0, False), (("a", thing, thing), AND[1][1])))
            self.refused(BadQuestion, at_row, AB, AND, thing)
            self.refused(BadQuestion, at_row, AB, AND, (thing, thing))


if __name__ == "__main__":
    unittest.main()
