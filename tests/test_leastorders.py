import unittest
from itertools import permutations

from knotweb.errors import BadFormula, BadPaper, BadQuestion
from knotweb.formulas import NO, YES, hangs_on
from knotweb.formulatexts import read_formula
from knotweb.leastorders import bounds_of, least_order, need_bounds, width_of
from knotweb.tables import knots_by, table_of
from tests.plain import chances, deep, doubled, name, nothings, random_formula
from tests.plainweb import function_of, functions_of, hangs, many_knots, name_counts, rows_by
from tests.refusing import Refusing
from tests.test_covers import formula_of_rows

EIGHT = read_formula("a & b | c & d | e & f | g & h")
NINE = read_formula("a & b | c & d | e & f | g & h & i")
# It has nine names, but hangs on eight of them.
EIGHT_OF_NINE = ("or", EIGHT, ("and", name("i"), ("not", name("i"))))
GREAT = 10 ** 3999


def plain_least(function, names):
    """The first order of names with the fewest knots, and how many there are."""
    return min(((order, many_knots([function], order)) for order in permutations(names)),
               key=lambda pair: (pair[1], pair[0]))


def plain_width(function, names, which, beneath):
    """How many knots of a name there are by an order in which all others but some are ahead of it."""
    ahead = [one for one in names if one != which and one not in beneath]
    return name_counts([function], (*ahead, which, *beneath))[which]


def plain_bounds(function, names):
    """The fewest knots of the names of each set by any order in which these are the lowest."""
    counts = [(order, name_counts([function], order)) for order in permutations(names)]
    told = []
    for row in rows_by(names):
        lowest = [its for order, its in counts if set(order[len(names) - len(row):]) == set(row)]
        told.append((row, min(sum(its[one] for one in row) for its in lowest)))
    return tuple(told)


def by_hung(formula, names):
    """The names on which a formula hangs, and the function by these."""
    function = function_of(formula, names)
    hung = hangs(function, names)
    return frozenset(row for row in function if set(row) <= set(hung)), hung


class Least(Refusing):
    def test_of_a_few(self):
        for text, order, many in [
            ("1", (), 0), ("0", (), 0), ("a | !a", (), 0), ("some a a", (), 0), ("b", ("b",), 1), ("!b", ("b",), 1),
            ("b & a", ("a", "b"), 2), ("c ^ b ^ a", ("a", "b", "c"), 3),
            ("a & c | b & d", ("a", "c", "b", "d"), 4), ("z & ab | b & c", ("ab", "z", "b", "c"), 4),
            ("a & (x | !x)", ("a",), 1), ("c ? a : b", ("c", "a", "b"), 3),
        ]:
            with self.subTest(text):
                told = least_order(read_formula(text))
                self.assertEqual(repr(told), repr((order, many)))

    def test_all_functions_of_three_names(self):
        names = ("a", "b", "c")
        for function in functions_of(names):
            if len(function) > 4:
                continue
            formula = formula_of_rows(sorted(function), names)
            self.look_at(formula, names)

    def look_at(self, formula, names):
        """Holds all that's told of a formula against the plain double."""
        function, hung = by_hung(formula, names)
        told = least_order(formula)
        self.assertEqual(told, plain_least(function, hung))
        self.assertEqual(len(table_of(formula, told[0])[1]), told[1])
        bounds = bounds_of(formula)
        self.assertEqual(bounds, plain_bounds(function, hung))
        self.assertIs(need_bounds(formula, bounds), bounds)
        for which in hung:
            for beneath in rows_by(tuple(one for one in hung if one != which)):
                self.assertEqual(width_of(formula, which, beneath), plain_width(function, hung, which, beneath))

    def test_drawn_functions_of_more_names(self):
        chance = chances(101)
        for names, many in (("abcd", 40), ("stuv", 20), ("abcde", 6)):
            for _ in range(many):
                self.look_at(random_formula(chance, names, chance.choice([3, 4, 5])), tuple(names))

    def test_six_names_by_all_orders(self):
        chance = chances(102)
        names = tuple("abcdef")
        for _ in range(2):
            formula = random_formula(chance, names, 6)
            hung = hangs_on(formula)
            counts = {order: len(table_of(formula, order)[1]) for order in permutations(hung)}
            fewest = min(counts.values())
            self.assertEqual(least_order(formula), (min(o for o, many in counts.items() if many == fewest), fewest))

    def test_eight_names_and_nine(self):
        self.assertEqual(least_order(EIGHT), (tuple("abcdefgh"), 8))
        self.assertEqual(least_order(EIGHT_OF_NINE), (tuple("abcdefgh"), 8))
        self.assertEqual(width_of(EIGHT, "a", tuple("bcdefgh")), 1)
        self.assertEqual(knots_by(tuple("acegbdfh"), table_of(EIGHT, tuple("acegbdfh")))["b"],
                         width_of(EIGHT, "b", tuple("dfh")))
        bounds = bounds_of(EIGHT)
        self.assertEqual(len(bounds), 256)
        self.assertEqual((bounds[0], bounds[-1]), (((), 0), (tuple("abcdefgh"), 8)))
        self.assertIs(need_bounds(EIGHT, bounds), bounds)
        for formula in (NINE, read_formula("a ^ b ^ c ^ d ^ e ^ f ^ g ^ h ^ i ^ j")):
            self.refused(BadQuestion, least_order, formula)
            self.refused(BadQuestion, width_of, formula, "a", ())
            self.refused(BadQuestion, width_of, formula, 5, 5)
            self.refused(BadQuestion, bounds_of, formula)
            self.refused(BadQuestion, need_bounds, formula, 5)

    def test_formulas_are_refused_first(self):
        for call, more in ((least_order, ()), (width_of, (5, 5)), (bounds_of, ()), (need_bounds, (5,))):
            self.assert_place(BadFormula, (0,), call, ("not", 5), *more)
            for kind, thing in nothings():
                with self.subTest(kind):
                    self.refused(BadFormula, call, thing, *more)


class Width(Refusing):
    F = read_formula("a & b ^ c & (x | !x)")

    def test_by_hand(self):
        self.assertEqual(width_of(self.F, "a", ("b", "c")), 1)
        self.assertEqual(width_of(self.F, "b", ("a",)), 1)
        self.assertEqual(width_of(self.F, "c", ()), 1)
        self.assertEqual(width_of(read_formula("a ? b : c"), "c", ("b",)), 1)
        # Of b and not c it is left as it is, of c and not b as its contrary.
        self.assertEqual(width_of(read_formula("a ? b : c"), "a", ()), 1)
        self.assertEqual(width_of(read_formula("a ? b & d : c"), "d", ()), 1)
        self.assertEqual(width_of(read_formula("b ? c & d : c"), "c", ("d",)), 2)
        self.assertEqual(repr(width_of(("name", "a"), "a", ())), "1")

    def test_refused(self):
        for thing in ["x", "z", "", "A", 5, None, True, ("a",), ["a"], {}, b"a", GREAT, deep(()), doubled(())]:
            self.refused(BadQuestion, width_of, self.F, thing, ())
            self.refused(BadQuestion, width_of, self.F, thing, 5)
        for thing in [("a",), ("a", "b"), ("c", "b"), ("b", "b"), ("x",), ("b", "x"), ["b"], "b", None, 5, True, (5,),
                      (["b"],), {}, {"b"}, ("B",), (("b",),), GREAT, deep(()), doubled(())]:
            self.refused(BadQuestion, width_of, self.F, "a", thing)
        for kind, thing in nothings():
            with self.subTest(kind):
                self.refused(BadQuestion, width_of, self.F, thing, ())
                self.refused(BadQuestion, width_of, self.F, "a", thing)
        for formula in (YES, NO):
            self.refused(BadQuestion, width_of, formula, "a", ())


class Bounds(Refusing):
    F = read_formula("a & b")

    def test_by_hand(self):
        bounds = (((), 0), (("a",), 1), (("b",), 1), (("a", "b"), 2))
        self.assertEqual(repr(bounds_of(self.F)), repr(bounds))
        self.assertEqual(bounds_of(YES), (((), 0),))
        self.assertEqual(bounds_of(read_formula("a & (x | !x)")), (((), 0), (("a",), 1)))
        copy = tuple((tuple(list(row)), many) for row, many in bounds)
        self.assertIs(need_bounds(self.F, copy), copy)
        self.assertEqual(need_bounds(NO, (((), 0),)), (((), 0),))

    def test_refused(self):
        fine = bounds_of(self.F)
        for thing in [None, list(fine), (), fine[:3], (*fine, ((), 0)), 5, True, "abcd", {}, {0: 1}, set(), fine[0]]:
            self.assert_place(BadPaper, (), need_bounds, self.F, thing)
        for number, pair in enumerate(fine):
            row, many = pair
            for thing in [None, 5, list(pair), (row,), (*pair, 0), (many, row), (list(row), many), (row, many + 1),
                          (row, many - 1), (row, str(many)), (row, None), (row, (many,)), (row, -many - 1),
                          (row, GREAT),
                          ((*row, "c"), many), (("c",), many), (row[::-1] + ("a",), many), (None, many), ("ab", many),
                          ("", many), (tuple(one.encode() for one in row) + (b"c",), many), (set(row), many)]:
                self.assert_place(BadPaper, (number,), need_bounds, self.F,
                    fine[:number] + (thing,) + fine[number + 1:])
        # Truths for numbers, and like texts of another kind.
        self.assert_place(BadPaper, (0,), need_bounds, self.F, (((), False), *fine[1:]))
        self.assert_place(BadPaper, (1,), need_bounds, self.F, (fine[0], (("a",), True), *fine[2:]))
        self.assert_place(BadPaper, (2,), need_bounds, self.F, (*fine[:2], ((b"b",), 1), fine[3]))
        self.assert_place(BadPaper, (2,), need_bounds, self.F, (*fine[:2], (["b"], 1), fine[3]))
        self.assert_place(BadPaper, (1,), need_bounds, self.F, (fine[0], fine[2], fine[1], fine[3]))
        self.assert_place(BadPaper, (3,), need_bounds, self.F, (*fine[:3], (("b", "a"), 2)))
        self.assert_place(BadPaper, (0,), need_bounds, self.F, (5, 5, 5, 5))

    def test_texts_of_another_class(self):
        class Text(str):
            pass

        fine = bounds_of(self.F)
        self.assert_place(BadPaper, (1,), need_bounds, self.F, (fine[0], ((Text("a"),), 1), *fine[2:]))

    def test_anything_is_refused(self):
        fine = bounds_of(self.F)
        for kind, thing in nothings():
            with self.subTest(kind):
                self.assert_place(BadPaper, (), need_bounds, self.F, thing)
                for number in range(4):
                    for pair in (thing, (fine[number][0], thing), (thing, fine[number][1])):
                        if kind == "number" and pair == fine[number]:
                            continue
                        changed = fine[:number] + (pair,) + fine[number + 1:]
                        self.assert_place(BadPaper, (number,), need_bounds, self.F, changed)


if __name__ == "__main__":
    unittest.main()
