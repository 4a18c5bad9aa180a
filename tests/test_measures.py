import unittest
from itertools import permutations

from knotweb.errors import BadFormula, BadMeasure, BadOrder, BadQuestion, NoSuch
from knotweb.formulas import NO, YES, rows_of
from knotweb.formulatexts import read_formula
from knotweb.measures import (
    greatest_at, ledger_of, mean_of, need_measure, numbers_of, share_of, summed, value_at,
)
from tests.plain import chances, deep, doubled, name, nothings, plain_names, plain_yes, random_formula
from tests.plainmeasure import (
    FULL, are_chances, first_row, hung, measure_names, measure_refusal, plain_ledger, plain_mean, plain_sums,
    plain_value, values,
)
from tests.plainweb import rows_by
from tests.refusing import Refusing

A, B, C = name("a"), name("b"), name("c")
TEN = tuple("abcdefghij")
GREAT = 10 ** 3999


def number(worth):
    return ("number", worth)


def chosen(formula, high=1, low=0):
    """The measure that comes to one of two numbers."""
    return ("choose", formula, number(high), number(low))


def nested(many, within=number(0)):
    """A measure within so many others."""
    for _ in range(many):
        within = ("plus", within, number(1))
    return within


def random_measure(chance, names, depth):
    while True:
        measure = grown(chance, names, depth)
        if measure_refusal(measure) is None:
            return measure


def grown(chance, names, depth):
    if depth == 0 or chance.random() < 0.1:
        return number(chance.choice([0, 1, 1, 2, 3, -1, -2, 10]))
    word = chance.choice(["choose", "choose", "plus", "times", "lesser", "greater"])
    more = (random_formula(chance, names, 2),) if word == "choose" else ()
    return (word, *more, grown(chance, names, depth - 1), grown(chance, names, depth - 1))


COUNTED = ("plus", chosen(A), ("plus", chosen(B), chosen(C)))


class NeedMeasure(Refusing):
    def test_measures_are_told_themselves(self):
        for thing in [
            number(0), number(-FULL), number(FULL), chosen(YES), chosen(A), COUNTED, nested(5),
            ("times", number(2), ("lesser", number(1), ("greater", number(3), chosen(("all", "word", NO))))),
        ]:
            self.assertIs(need_measure(thing), thing)

    def test_refused_by_the_way_to_the_first(self):
        for thing, way in [
            (5, ()), ((), ()), ("number", ()), (["number", 1], ()), (("number",), ()), (("number", 1, 2), ()),
            (("number", True), ()), (("number", None), ()), (("number", "1"), ()), (number(FULL + 1), ()),
            (number(-FULL - 1), ()), (number(GREAT), ()), (number(number(1)), ()), (("Number", 1), ()),
            (("plus", number(1)), ()), (("plus", number(1), number(1), number(1)), ()), (("plus", 1, 2), (0,)),
            (("plus", number(1), 2), (1,)), (("minus", number(1), number(2)), ()),
            (("times", ("plus", 1, 2), 3), (0, 0)),
            (("choose", 5, number(1), number(2)), ()), (("choose", A, number(1)), ()),
            (("choose", A, 1, number(2)), (0,)),
            (("choose", A, number(1), 2), (1,)), (("choose", ("not", 5), 1, 2), ()),
            (("plus", ("choose", ("name", "A"), 5, 5), 5), (0,)),
            (("plus", number(1), ("choose", ("name", ""), number(1), number(1))), (1,)),
            (("choose", number(1), number(1), number(2)), ()), (("lesser", number(1), ()), (1,)),
            (("greater", ("choose", A, number(1), [1]), 5), (0, 1)), (A, ()), (YES, ()),
            (([], 1), ()), (({}, 1), ()), ((None, 1), ()), ((("number",), 1), ()), ((True, 1), ()),
        ]:
            with self.subTest(thing=thing):
                self.assertEqual(measure_refusal(thing), way)
                self.assert_place(BadMeasure, way, need_measure, thing)

    def test_five_and_six_within_one_another(self):
        self.assertIsNotNone(need_measure(nested(5)))
        self.assert_place(BadMeasure, (0,) * 6, need_measure, nested(6))
        self.assert_place(BadMeasure, (0,) * 6, need_measure, nested(6, 5))
        self.assert_place(BadMeasure, (1,) + (0,) * 5, need_measure, ("choose", A, number(1), nested(5)))

    def test_twenty_and_twenty_one(self):
        def pairs(many):
            """A measure of 2 ** many - 1 measures."""
            return number(1) if many == 1 else ("plus", pairs(many - 1), pairs(many - 1))

        fifteen = pairs(4)
        nineteen = ("plus", fifteen, ("lesser", number(1), number(2)))
        self.assertIs(need_measure(nineteen), nineteen)
        with_21 = ("plus", fifteen, ("plus", number(1), ("plus", number(1), number(2))))
        self.assertEqual(measure_refusal(with_21), (1, 1, 1))
        self.assert_place(BadMeasure, (1, 1, 1), need_measure, with_21)
        self.assert_place(BadMeasure, (1, 1, 0), need_measure, ("plus", fifteen, ("plus", number(1), ("plus", 5, 5))))
        # An odd number always: a measure within has none or two; so the 20th is there with the 21st.
        self.assert_place(BadMeasure, (1, 1, 1), need_measure,
            ("plus", fifteen, ("plus", number(1), ("plus", number(1), 5))))
        self.assert_place(BadMeasure, (0,) * 6, need_measure, doubled(("plus",)))

    def test_ten_names_and_eleven(self):
        def of(names):
            return ("choose", read_formula(" & ".join(names)), number(1), number(2))

        ten = ("plus", of("abcde"), of("fghij"))
        self.assertIs(need_measure(ten), ten)
        self.assertIsNotNone(need_measure(("plus", of(TEN), of("abc"))))
        self.assert_place(BadMeasure, (1,), need_measure, ("plus", of("abcde"), of("efghijk")))
        self.assert_place(BadMeasure, (1, 0), need_measure, ("plus", of("abcdef"), ("choose", name("g"), of("hijkl"),
            5)))
        self.assert_place(BadMeasure, (1,), need_measure, ("plus", of(TEN), chosen(("some", "k", NO))))
        self.assert_place(BadMeasure, (0, 0), need_measure, ("plus", ("choose", read_formula("a&b&c"), 5, 5), of("k")))

    def test_drawn_things(self):
        chance = chances(81)
        fine = 0
        for _ in range(400):
            thing = grown(chance, TEN + ("k", "l"), chance.choice([2, 4, 6]))
            way = measure_refusal(thing)
            if way is None:
                fine += 1
                self.assertIs(need_measure(thing), thing)
            else:
                self.assert_place(BadMeasure, way, need_measure, thing)
        self.assertGreater(fine, 100)
        self.assertLess(fine, 390)

    def test_all_refuse_so(self):
        for call, more in [
            (value_at, (5,)), (ledger_of, (5,)), (numbers_of, ()), (greatest_at, (5,)), (summed, (5, 5)),
            (mean_of, (5,)),
        ]:
            self.assert_place(BadMeasure, (1,), call, ("plus", number(1), 5), *more)
            for kind, thing in nothings():
                with self.subTest(kind):
                    self.assert_place(BadMeasure, measure_refusal(thing), call, thing, *more)
                    self.assert_place(BadMeasure, (0,), call, ("times", thing, thing), *more)
                    self.assert_place(BadMeasure, (), call, ("number", thing) if type(thing) is not int or thing > FULL
                                      else ("number", (thing,)), *more)
                    self.assert_place(BadMeasure, (), call, ("choose", thing, 5, 5), *more)
        for kind, thing in nothings():
            self.assert_place(BadMeasure, measure_refusal(thing), need_measure, thing)
        self.assert_place(BadMeasure, (1, 1, 1, 1, 1, 0), need_measure, deep(("plus", number(1))))


class Values(Refusing):
    def test_by_hand(self):
        measure = ("choose", ("and", A, B), ("plus", number(3), chosen(C, 10, -10)),
            ("times", number(-2), chosen(A, 7, 5)))
        for row, told in [((), -10), (("a",), -14), (("c",), -10), (("a", "b"), -7), (("a", "b", "c"), 13)]:
            self.assertEqual(repr(value_at(measure, row)), repr(told))
        self.assertEqual(value_at(("lesser", number(3), number(-4)), ()), -4)
        self.assertEqual(value_at(("greater", number(3), number(-4)), ()), 3)
        self.assertEqual(value_at(chosen(A), ("a", "other", "z")), 1)
        power = number(FULL)
        for _ in range(4):
            power = ("times", power, power) if power[0] == "number" else ("times", power, number(-FULL))
        self.assertEqual(value_at(power, ()), -FULL ** 5)

    def test_no_row(self):
        for thing in [["a"], "a", None, 5, True, ("b", "a"), ("a", "a"), ("A",), (5,), {}, {"a"}, deep(()),
            doubled(())]:
            self.refused(BadQuestion, value_at, COUNTED, thing)
        for kind, thing in nothings():
            self.refused(BadQuestion, value_at, COUNTED, thing)

    def test_numbers_of(self):
        self.assertEqual(numbers_of(COUNTED), (0, 1, 2, 3))
        self.assertEqual(numbers_of(number(-5)), (-5,))
        self.assertEqual(numbers_of(chosen(("or", A, ("not", A)), 5, 7)), (5,))
        self.assertEqual(repr(numbers_of(chosen(A, 2, -2))), "(-2, 2)")

    def test_greatest_at(self):
        self.assertEqual(greatest_at(COUNTED, ("c", "a", "b")), (3, ("a", "b", "c")))
        self.assertEqual(greatest_at(number(7), ()), (7, ()))
        self.assertEqual(greatest_at(chosen(("xor", A, B), 5, -5), ("b", "z", "a")), (5, ("a",)))
        self.assertEqual(greatest_at(chosen(("or", ("and", A, B), C)), ("b", "c", "a")), (1, ("c",)))
        self.assertEqual(greatest_at(chosen(A, -5, -4), ("a",)), (-4, ()))
        self.assert_lacks("c", greatest_at, ("plus", chosen(C), chosen(A)), ("b",))
        self.assert_lacks("a", greatest_at, ("plus", chosen(("and", A, C)), chosen(B)), ("b",))
        # Also of a name on which it doesn't hang.
        self.assert_lacks("x", greatest_at, chosen(("some", "x", A)), ("a",))
        self.assert_place(BadOrder, (0,), greatest_at, COUNTED, (5,))

    def test_drawn(self):
        chance = chances(82)
        for _ in range(150):
            names = tuple(chance.sample("abcd", chance.choice([1, 2, 3, 4])))
            measure = random_measure(chance, names, chance.choice([2, 3, 4]))
            worth = values(measure, names)
            for row, told in worth.items():
                self.assertEqual(repr(value_at(measure, row)), repr(told))
            self.assertEqual(numbers_of(measure), tuple(sorted(set(worth.values()))))
            greatest = max(worth.values())
            order = tuple(chance.sample(names + ("y", "z"), len(names) + 2))
            self.assertEqual(greatest_at(measure, order), (greatest, first_row(worth, greatest)))


class Ledgers(Refusing):
    def test_by_hand(self):
        self.assertEqual(ledger_of(number(5), ()), (("end", 5), ()))
        self.assertEqual(ledger_of(number(5), ("a",)), (("end", 5), ()))
        self.assertEqual(ledger_of(chosen(A, 2, 3), ("b", "a")), (("knot", 0), (("a", ("end", 2), ("end", 3)),)))
        self.assertEqual(ledger_of(("plus", chosen(A), chosen(B)), ("a", "b")), (("knot", 0), (
            ("a", ("knot", 1), ("knot", 2)), ("b", ("end", 2), ("end", 1)), ("b", ("end", 1), ("end", 0)))))
        # Contrary ones are not one.
        self.assertEqual(ledger_of(chosen(("xor", A, B)), ("a", "b")), (("knot", 0), (
            ("a", ("knot", 1), ("knot", 2)), ("b", ("end", 0), ("end", 1)), ("b", ("end", 1), ("end", 0)))))
        # All of HIGH ahead of all of LOW.
        self.assertEqual(ledger_of(("choose", A, ("choose", B, number(1), chosen(C, 2, 3)), chosen(B, 4, 5)),
            ("a", "b", "c")),
                         (("knot", 0), (("a", ("knot", 1), ("knot", 3)), ("b", ("end", 1), ("knot", 2)),
                                        ("c", ("end", 2), ("end", 3)), ("b", ("end", 4), ("end", 5)))))

    def test_drawn_by_all_orders(self):
        chance = chances(83)
        for _ in range(60):
            names = ("a", "b", "c")
            measure = random_measure(chance, names, chance.choice([2, 3, 4]))
            worth = values(measure, names)
            for order in permutations(names):
                self.assertEqual(repr(ledger_of(measure, order)), repr(plain_ledger(worth, order)))
            for many in (0, 1, 2, 3):
                over = tuple(chance.sample(names, many))
                order = tuple(chance.sample(names, 3))
                self.assertEqual(repr(summed(measure, order, over)), repr(plain_ledger(plain_sums(worth, over), order)))

    def test_names_on_which_it_does_not_hang_need_not_be_there(self):
        chance = chances(84)
        lacking = refused = 0
        for _ in range(250):
            measure = random_measure(chance, "abcd", chance.choice([2, 3]))
            names = tuple(sorted(measure_names(measure)))
            worth = values(measure, "abcd")
            needed = hung(worth, sorted("abcd"))
            order = tuple(chance.sample("abcdxy", chance.choice([2, 3, 4])))
            missing = [one for one in needed if one not in order]
            if missing:
                refused += 1
                self.assert_lacks(missing[0], ledger_of, measure, order)
                continue
            lacking += any(one not in order for one in names)
            every = tuple(dict.fromkeys(order + tuple("abcd")))
            self.assertEqual(ledger_of(measure, order), plain_ledger(values(measure, every), every))
        self.assertGreater(lacking, 5)
        self.assertGreater(refused, 5)

    def test_refused(self):
        self.assert_lacks("a", ledger_of, ("plus", chosen(C), chosen(A)), ("b",))
        self.assert_lacks("c", ledger_of, ("plus", chosen(C), chosen(("some", "a", A))), ("b",))
        for call, more in ((ledger_of, ()), (greatest_at, ()), (summed, (5,))):
            self.assert_place(BadOrder, (1,), call, COUNTED, ("z", "z"), *more)
            self.assert_place(BadOrder, (), call, COUNTED, TEN + ("k",), *more)
            for kind, thing in nothings():
                with self.subTest(kind):
                    self.refused(BadOrder, call, COUNTED, thing, *more)


class Summed(Refusing):
    def test_by_hand(self):
        measure = ("plus", chosen(A), chosen(B, 10))
        self.assertEqual(summed(measure, ("a", "b"), ()), ledger_of(measure, ("a", "b")))
        self.assertEqual(summed(measure, ("a", "b"), ("a",)), (("knot", 0), (("b", ("end", 21), ("end", 1)),)))
        self.assertEqual(summed(measure, ("a", "b"), ("b", "a")), (("end", 22), ()))
        # A name that isn't in the measure counts each row twice.
        self.assertEqual(summed(measure, ("x", "a", "b"), ("x", "a", "b")), (("end", 44), ()))
        self.assertEqual(summed(number(3), TEN, TEN), (("end", 3072), ()))
        self.assertEqual(summed(number(3), (), ()), (("end", 3), ()))

    def test_refused(self):
        order = ("b", "a", "c")
        self.assert_lacks("c", summed, ("plus", chosen(C), chosen(A)), ("b",), 5)
        self.assert_lacks("x", summed, chosen(("some", "x", A)), ("a",), 5)
        for thing in [["a"], "a", None, 5, True, {}, {"a"}, ("z",), ("a", "a"), ("a", "b", "a"), ("a", 5), (["a"],),
                      (("a",),), (True,), ("A",), ("",), deep(()), doubled(())]:
            self.refused(BadQuestion, summed, COUNTED, order, thing)
        for kind, thing in nothings():
            with self.subTest(kind):
                self.refused(BadQuestion, summed, COUNTED, order, thing)
                self.refused(BadQuestion, summed, COUNTED, order, ("a", thing))


class Chances(Refusing):
    def test_shares_by_hand(self):
        half = {one: (1, 2) for one in TEN}
        for text, given, told in [
            ("1", {}, (1, 1)), ("0", {}, (0, 1)), ("a", {"a": (1, 2)}, (1, 2)), ("a", {"a": (2, 4)}, (1, 2)),
            ("a", {"a": (0, 5)}, (0, 1)), ("a", {"a": (5, 5)}, (1, 1)), ("!a", {"a": (0, 999)}, (1, 1)),
            ("a", {"a": (998, 999)}, (998, 999)), ("a & b", {"a": (2, 3), "b": (3, 4)}, (1, 2)),
            ("a | b", {"a": (1, 3), "b": (1, 3)}, (5, 9)), ("a ^ b", {"a": (1, 3), "b": (1, 2)}, (1, 2)),
            ("a & b", half, (1, 4)), ("a | !a", {"a": (1, 7)}, (1, 1)),
            ("some a (a & b)", {"a": (0, 1), "b": (1, 3)}, (1, 3)),
            ("a & b & c & d & e & f & g & h & i & j", half, (1, 1024)),
        ]:
            with self.subTest(text=text, given=given):
                self.assertEqual(repr(share_of(read_formula(text), given)), repr(told))

    def test_means_by_hand(self):
        for measure, given, told in [
            (number(-7), {}, (-7, 1)), (number(0), {"a": (1, 2)}, (0, 1)), (chosen(A, 3, -3), {"a": (1, 2)}, (0, 1)),
            (chosen(A, 5, 0), {"a": (1, 3)}, (5, 3)), (chosen(A, -5, 0), {"a": (2, 4)}, (-5, 2)),
            (("plus", chosen(A), chosen(B)), {"a": (1, 2), "b": (1, 3)}, (5, 6)),
            (("times", chosen(A, 2, 4), chosen(A, 2, 4)), {"a": (1, 2)}, (10, 1)),
            (chosen(A, FULL, -FULL), {"a": (999, 999)}, (FULL, 1)),
        ]:
            with self.subTest(measure=measure, given=given):
                self.assertEqual(repr(mean_of(measure, given)), repr(told))

    def test_drawn(self):
        chance = chances(85)
        for _ in range(200):
            names = tuple(chance.sample("abcd", chance.choice([1, 2, 3, 4])))
            given = {}
            for one in chance.sample(names + ("y", "z"), len(names) + 2):
                down = chance.choice([1, 2, 3, 10, 998, 999])
                given[one] = (chance.choice([0, 1, down, chance.randrange(down + 1)]), down)
            ahead = dict(given)
            formula = random_formula(chance, names, 4)
            truths = {row: int(plain_yes(formula, row)) for row in rows_by(tuple(sorted(names)))}
            self.assertEqual(repr(share_of(formula, given)), repr(plain_mean(truths, names, given)))
            measure = random_measure(chance, names, 3)
            self.assertEqual(repr(mean_of(measure, given)), repr(plain_mean(values(measure, names), names, given)))
            self.assertEqual(given, ahead)

    def test_by_halves_rows_are_counted(self):
        chance = chances(86)
        for _ in range(30):
            formula = random_formula(chance, "abcd", 4)
            up, down = share_of(formula, {one: (1, 2) for one in "abcd"})
            self.assertEqual(16 * up, down * len(rows_of(formula, ("a", "b", "c", "d"))))

    def test_chances_that_are_none(self):
        fine = {"a": (1, 2), "b": (1, 2), "c": (1, 2)}
        wrong = [
            {}, {"a": (1, 2), "b": (1, 2)}, None, [], (), "abc", 5, True, [("a", (1, 2))], {"a", "b", "c"},
            {**fine, "z": 5}, {**fine, "A": (1, 2)}, {**fine, "": (1, 2)}, {**fine, 5: (1, 2)}, {**fine, None: (1, 2)},
            {**fine, ("a",): (1, 2)}, {**fine, "abcdefghi": (1, 2)},
        ]
        for pair in [
            (1, 1000), (0, 1000), (2, 1), (-1, 2), (0, 0), (1, 0), (1, -2), (-1, -2), (True, 2), (1, True), (False, 1),
            (1, 2, 3), (1,), (), [1, 2], "12", None, 5, (None, 2), (1, None), ("1", "2"), ((1,), (2,)), {1: 2},
            (GREAT, GREAT), (0, GREAT), (1, [2]), deep(()), doubled(()),
        ]:
            wrong += [{**fine, "a": pair}, {**fine, "z": pair}]
            self.assertFalse(are_chances(wrong[-1]))
        for thing in wrong:
            self.refused(BadQuestion, share_of, ("and", A, ("and", B, C)), thing)
            self.refused(BadQuestion, mean_of, COUNTED, thing)
        for kind, thing in nothings():
            with self.subTest(kind):
                self.refused(BadQuestion, share_of, A, thing)
                self.refused(BadQuestion, mean_of, chosen(A), thing)
        self.assertEqual(share_of(A, {"a": (999, 999), "z": (0, 999)}), (1, 1))

    def test_names_on_which_nothing_hangs_need_chances_too(self):
        self.refused(BadQuestion, share_of, ("and", A, ("or", B, ("not", B))), {"a": (1, 2)})
        self.refused(BadQuestion, share_of, ("some", "b", A), {"a": (1, 2)})
        self.refused(BadQuestion, mean_of, ("choose", ("all", "b", A), number(1), number(1)), {"a": (1, 2)})
        self.assertEqual(mean_of(("choose", ("all", "b", A), number(1), number(1)), {"a": (1, 2), "b": (0, 1)}), (1, 1))

    def test_formulas_are_refused_first(self):
        self.assert_place(BadFormula, (0,), share_of, ("not", 5), 5)
        for kind, thing in nothings():
            with self.subTest(kind):
                self.refused(BadFormula, share_of, thing, thing)


class Greatest(unittest.TestCase):
    def test_ten_names(self):
        chance = chances(87)
        formula = " ^ ".join(f"{one} & {other}" for one, other in zip(TEN, TEN[1:]))
        whole = ("plus", ("times", chosen(read_formula(formula), 7, -3), chosen(read_formula("a | j"), 2, 5)),
                 ("greater", chosen(read_formula("b ? c : d"), 100, -100),
                 chosen(read_formula("e & f & g & h"), 50, 0)))
        self.assertEqual(sorted(measure_names(whole)), list(TEN))
        order = tuple(chance.sample(TEN, 10))
        worth = values(whole, TEN)
        self.assertEqual(numbers_of(whole), tuple(sorted(set(worth.values()))))
        self.assertEqual(greatest_at(whole, order), (max(worth.values()), first_row(worth, max(worth.values()))))
        self.assertEqual(ledger_of(whole, order)[0], ("knot", 0))
        self.assertEqual(summed(whole, order, order), (("end", sum(worth.values())), ()))
        given = {one: (1, 2) for one in TEN}
        self.assertEqual(mean_of(whole, given), plain_mean(worth, TEN, given))
        for row in chance.sample(list(worth), 50):
            self.assertEqual(value_at(whole, row), plain_value(whole, row))
        self.assertEqual(plain_names(read_formula(formula)), list(TEN))


if __name__ == "__main__":
    unittest.main()
