import copy
import unittest

from knotweb.errors import BadFormula, BadOrder, BadQuestion, NoSuch
from knotweb.formulas import (
    MOST_NAMES, MOST_PARTS, NO, YES, differ_at, hangs_on, is_yes, joined, names_in,
    need_formula, need_order, rows_of,
)
from tests.plain import (
    LETTERS, SHAPES, all_rows, chances, count_parts, deep, doubled, is_plain_name, name, nothings,
    plain_names, plain_refusal, plain_yes, random_formula, with_name, without,
)

A, B, C = name("a"), name("b"), name("c")
TEN = tuple(LETTERS[:10])
OTHER_TEN = tuple(LETTERS[10:20])


def nested(word, times, inner=YES):
    """A formula with so many of the word within one another."""
    for _ in range(times):
        inner = (*word, inner)
    return inner


def balanced(leaves, word="and"):
    """Formulas joined two by two, so that few stand within one another."""
    while len(leaves) > 1:
        pairs = [(word, *leaves[at:at + 2]) for at in range(0, len(leaves) - 1, 2)]
        leaves = pairs + leaves[len(pairs) * 2:]
    return leaves[0]


class Refusing(unittest.TestCase):
    def refused(self, kind, call, *handed, **named):
        with self.assertRaises(kind) as caught:
            call(*handed, **named)
        self.assertIs(type(caught.exception), kind)
        return caught.exception

    def assert_way(self, thing, way):
        self.assertEqual(self.refused(BadFormula, need_formula, thing).place, way)


class NeedFormula(Refusing):
    def test_each_form_is_told_itself(self):
        for formula in [
            ("yes",), ("no",), A, ("not", A), ("and", A, B), ("or", A, B), ("xor", A, B),
            ("if", A, B, C), ("some", "a", B), ("all", "a", B), ("put", "a", B, C),
            ("name", "not"), ("name", "some"), ("all", "yes", YES), ("put", "in", NO, YES),
        ]:
            self.assertIs(need_formula(formula), formula)

    def test_anything_else_is_refused_at_the_top(self):
        for kind, thing in nothings() + [("empty", ()), ("text", "yes"), ("name alone", ("name",))]:
            if plain_refusal(thing) == ():
                with self.subTest(kind):
                    self.assert_way(thing, ())

    def test_anything_is_refused_where_the_plain_words_say(self):
        for kind, thing in nothings():
            for whole in (thing, ("not", thing), ("if", A, ("and", B, thing), thing), ("put", "a", A, thing)):
                with self.subTest(kind):
                    way = plain_refusal(whole)
                    self.assertIsNotNone(way)
                    self.assert_way(whole, way)

    def test_wrong_numbers_of_things_behind_a_word(self):
        for word, kinds in SHAPES.items():
            behind = ["a" if kind == "n" else A for kind in kinds]
            need_formula((word, *behind))
            self.assert_way((word, *behind, A), ())
            self.assert_way((word, *behind, "a"), ())
            if behind:
                self.assert_way((word, *behind[:-1]), ())

    def test_words_that_are_none(self):
        for word in ("", "Yes", "yes ", "nand", "iff", "name\n", "a", None, 1, True, ["yes"]):
            self.assert_way((word,), ())
            self.assert_way((word, A), ())
            self.assert_way((word, A, B), ())

    def test_names_have_one_to_eight_letters(self):
        for text in ("a", "z", "abcdefgh", "yes", "zzzzzzzz"):
            for formula in (name(text), ("some", text, A), ("all", text, A), ("put", text, A, B)):
                self.assertIs(need_formula(formula), formula)
        for text in ("", "abcdefghi", "A", "aB", "a b", " a", "a1", "1", "a\n", "a_", "{", "`", "\n",
                     None, 5, True, ("a",), ["a"], {}, b"a", deep(()), doubled(())):
            for formula in (name(text), ("some", text, A), ("all", text, A), ("put", text, A, B)):
                self.assert_way(formula, ())
                self.assert_way(("and", A, formula), (1,))

    def test_parts_are_numbered_without_words_and_names(self):
        for formula, way in [
            (("some", "a", 5), (0,)), (("all", "a", 5), (0,)), (("put", "a", 5, 5), (0,)),
            (("put", "a", A, 5), (1,)), (("if", A, B, 5), (2,)), (("if", A, 5, 5), (1,)),
            (("not", ("put", "a", A, ("some", "b", []))), (0, 1, 0)), (("not", []), (0,)),
            (("and", ("not", ("xor", A, None)), 5), (0, 0, 1)),
        ]:
            self.assert_way(formula, way)

    def test_a_part_is_met_ahead_of_its_own(self):
        self.assert_way(("not", ("some", "A", 5)), (0,))
        self.assert_way(("and", ("not", 5), 5), (0, 0))
        self.assert_way(("and", ("not", A, A), 5), (0,))

    def test_ten_stand_within_one_another_but_no_more(self):
        for word in [("not",), ("some", "a"), ("put", "a", B), ("and", A), ("if", A, B)]:
            self.assertIsNone(plain_refusal(nested(word, 9)))
            fine = nested(word, 9)
            self.assertIs(need_formula(fine), fine)
            last = {"not": 0, "some": 0, "put": 1, "and": 1, "if": 2}[word[0]]
            self.assert_way(nested(word, 10), (last,) * 9 + (0,))
            self.assert_way(nested(word, 9, inner=5), (last,) * 9)

    def test_sixty_parts_but_no_more(self):
        sixty = ("not", balanced([A] * 30))
        self.assertEqual(count_parts(sixty), 60)
        self.assertIs(need_formula(sixty), sixty)
        more = ("and", balanced([A] * 30), A)
        self.assertEqual(count_parts(more), 61)
        self.assert_way(more, (1,))
        self.assert_way(("and", balanced([A] * 30), ("and", A, A)), (1,))
        self.assert_way(("not", ("and", balanced([A] * 29), ("and", A, A))), (0, 1, 0))
        self.assert_way(("and", balanced([A] * 30), 5), (1,))
        self.assert_way(("and", 5, balanced([A] * 30)), (0,))

    def test_ten_names_but_no_more(self):
        ten = balanced([name(text) for text in TEN])
        self.assertIs(need_formula(ten), ten)
        again = ("and", ten, ("some", "a", ("put", "b", C, A)))
        self.assertIs(need_formula(again), again)
        self.assert_way(("and", ten, name("k")), (1,))
        for part in (("some", "k", A), ("all", "k", A), ("put", "k", A, B)):
            self.assert_way(("and", ten, part), (1,))
            self.assert_way(("and", part, ten), (1, 1, 1))
            self.assert_way(("or", ("and", ten, part), 5), (0, 1))

    def test_a_name_behind_a_word_is_met_ahead_of_what_is_beneath(self):
        nine = balanced([name(text) for text in TEN[:9]])
        self.assert_way(("and", nine, ("some", "x", name("y"))), (1, 0))
        self.assert_way(("and", nine, ("put", "x", A, name("y"))), (1, 1))
        self.assert_way(("and", ("some", "x", A), ("and", nine, name("y"))), (1, 1))

    def test_deep_and_doubled_things_are_refused_at_once(self):
        self.assert_way(deep(("not",)), (0,) * 10)
        self.assert_way(deep(("and", A)), (1,) * 9 + (0,))
        self.assert_way(doubled(("and",)), (0,) * 10)
        self.assert_way(doubled(("put", "a")), (0,) * 10)
        self.assert_way(("and", A, doubled(("or",))), (1, *(0,) * 9))
        self.assert_way(deep(()), ())
        self.assert_way(doubled(()), ())

    def test_many_random_things_against_the_plain_words(self):
        chance = chances(4)
        for _ in range(4000):
            thing = self.spoiled(chance, 0)
            way = plain_refusal(thing)
            if way is None:
                self.assertIs(need_formula(thing), thing)
            else:
                self.assert_way(thing, way)

    def spoiled(self, chance, depth):
        """A thing that is nearly a formula."""
        if chance.random() < 0.01:
            return chance.choice([5, (), ("name",), ("name", "A"), ("if", A, B), [A], ("not", A, A)])
        if depth > 10 or chance.random() < 0.12:
            return chance.choice([YES, name(chance.choice("abcdefghijklmn"))])
        word = chance.choice([word for word in SHAPES if "f" in SHAPES[word]])
        return (word, *[
            chance.choice("abcdefghijk") if kind == "n" else self.spoiled(chance, depth + 1)
            for kind in SHAPES[word]
        ])


class NeedOrder(Refusing):
    def place(self, thing):
        return self.refused(BadOrder, need_order, thing).place

    def test_orders_are_told_themselves(self):
        for order in ((), ("a",), ("b", "a"), TEN, TEN[::-1], ("yes", "not", "abcdefgh")):
            self.assertIs(need_order(order), order)

    def test_no_tuple_of_none_to_ten(self):
        for thing in (None, True, 3, "abc", ["a"], {}, {"a": 1}, TEN + ("k",), TEN + TEN, (5,) * 11):
            self.assertEqual(self.place(thing), ())

    def test_first_that_is_no_name_or_stands_ahead(self):
        for thing, place in [
            (("A",), 0), (("a", ""), 1), (("a", "abcdefghi"), 1), (("a", "b", "a"), 2), (("a", "a", "A"), 1),
            ((5, "a", "a"), 0), (("a", ["a"]), 1), (("a", {}), 1), (("a", ("a",)), 1), ((True,), 0),
            (("a", None), 1), (TEN[:9] + ("a",), 9), (TEN[:9] + ("J",), 9), (("b", "a\n"), 1),
        ]:
            self.assertEqual(self.place(thing), (place,))

    def test_anything(self):
        for kind, thing in nothings():
            with self.subTest(kind):
                at = ()
                if type(thing) is tuple:
                    at = next((n,) for n, one in enumerate(thing) if not is_plain_name(one))
                self.assertEqual(self.place(thing), at)
        self.assertEqual(self.place(("a", deep(()))), (1,))
        self.assertEqual(self.place(("a", doubled(()), "a")), (1,))


class Truths(Refusing):
    def test_words_at_rows(self):
        for formula, yes in [
            (YES, [(), ("a",), ("b",), ("a", "b")]), (NO, []), (A, [("a",), ("a", "b")]),
            (("not", A), [(), ("b",)]), (("and", A, B), [("a", "b")]),
            (("or", A, B), [("a",), ("b",), ("a", "b")]), (("xor", A, B), [("a",), ("b",)]),
            (("if", A, B, NO), [("a", "b")]), (("if", A, B, YES), [(), ("b",), ("a", "b")]),
            (("some", "a", ("and", A, B)), [("b",), ("a", "b")]), (("all", "a", ("and", A, B)), []),
            (("all", "a", ("or", A, B)), [("b",), ("a", "b")]),
            (("put", "a", ("not", A), ("and", A, B)), [("b",)]),
            (("put", "a", B, A), [("b",), ("a", "b")]), (("put", "a", B, B), [("b",), ("a", "b")]),
        ]:
            with self.subTest(formula=formula):
                self.assertEqual(rows_of(formula, ("b", "a")), yes)
                for row in all_rows("ab"):
                    self.assertIs(is_yes(formula, row), row in yes)

    def test_a_name_within_and_outside_of_some_all_and_put(self):
        twice = ("and", A, ("some", "a", ("not", A)))
        self.assertEqual(rows_of(twice, ("a",)), [("a",)])
        within = ("some", "a", ("and", A, ("all", "a", ("or", A, B))))
        self.assertEqual(rows_of(within, ("a", "b")), [("b",), ("a", "b")])
        # The first part of a put is asked at the row itself, within another put at the changed one.
        swap = ("put", "a", ("not", A), ("put", "b", A, B))
        self.assertEqual(rows_of(swap, ("a", "b")), [(), ("b",)])
        beneath = ("put", "a", ("put", "a", ("not", A), A), A)
        self.assertEqual(rows_of(beneath, ("a",)), [()])

    def test_random_formulas_against_the_plain_words(self):
        chance = chances(1)
        for _ in range(400):
            formula = random_formula(chance, "abcd", 5)
            names = [*plain_names(formula), "x"]
            order = tuple(chance.sample(names, len(names)))
            yes = [row for row in all_rows(order) if plain_yes(formula, row)]
            self.assertEqual(rows_of(formula, order), yes)
            for row in all_rows("abcx"):
                self.assertIs(is_yes(formula, row), plain_yes(formula, row))

    def test_rows_may_have_any_names_and_any_many(self):
        many = tuple(sorted(LETTERS))
        self.assertIs(is_yes(("and", A, name("z")), many), True)
        self.assertIs(is_yes(("not", A), ("aa", "b", "bcdefghi", "some")), True)
        self.assertIs(is_yes(YES, tuple(sorted(first + second for first in LETTERS for second in LETTERS))), True)
        self.assertIs(is_yes(NO, ("a",)), False)

    def test_no_row(self):
        for thing in ["a", ["a"], None, {}, 5, True, ("b", "a"), ("a", "a"), ("A",), ("a", "b", "b"), ("",),
                      ("abcdefghi",), (5,), ("a", 5), ("a", ["b"]), (("a",),), ("a", None), ("a", deep(()))]:
            self.refused(BadQuestion, is_yes, YES, thing)
            self.refused(BadQuestion, is_yes, A, thing)
        for kind, thing in nothings():
            with self.subTest(kind):
                self.refused(BadQuestion, is_yes, A, thing)
                self.assertEqual(self.refused(BadFormula, is_yes, ("not", 5), thing).place, (0,))

    def test_rows_of_all_rows_of_ten_names(self):
        rows = rows_of(YES, TEN[::-1])
        self.assertEqual(len(rows), 1024)
        self.assertEqual(rows, all_rows(TEN))
        self.assertEqual(rows[:12], [(), *[(one,) for one in TEN], ("a", "b")])
        self.assertEqual(rows_of(NO, TEN), [])
        odd = rows_of(balanced([name(text) for text in TEN], "xor"), TEN)
        self.assertEqual(odd, [row for row in all_rows(TEN) if len(row) % 2])

    def test_rows_of_an_order_of_none(self):
        self.assertEqual(rows_of(YES, ()), [()])
        self.assertEqual(rows_of(NO, ()), [])
        self.assertEqual(self.refused(NoSuch, rows_of, A, ()).name, "a")

    def test_rows_of_tells_a_new_list_each_time(self):
        told = rows_of(A, ("a", "b"))
        told.append("more")
        self.assertEqual(rows_of(A, ("a", "b")), [("a",), ("a", "b")])

    def test_rows_of_refuses_in_turn(self):
        self.assertEqual(self.refused(BadFormula, rows_of, ("not", 5), 5).place, (0,))
        self.assertEqual(self.refused(BadOrder, rows_of, A, ("b", "b")).place, (1,))
        self.assertEqual(self.refused(BadOrder, rows_of, A, ["a"]).place, ())
        formula = ("or", ("some", "z", C), ("put", "y", B, A))
        self.assertEqual(self.refused(NoSuch, rows_of, formula, ("a",)).name, "z")
        self.assertEqual(self.refused(NoSuch, rows_of, formula, ("z", "a")).name, "c")
        self.assertEqual(self.refused(NoSuch, rows_of, formula, ("z", "c", "a")).name, "y")
        self.assertEqual(self.refused(NoSuch, rows_of, formula, ("z", "c", "a", "y")).name, "b")
        for kind, thing in nothings():
            with self.subTest(kind):
                self.refused(BadFormula, rows_of, thing, thing)
                self.refused(BadOrder, rows_of, A, thing)

    def test_handed_in_stays_as_it_is(self):
        formula = ("if", A, ("put", "b", C, ("some", "a", B)), ("not", B))
        before = copy.deepcopy(formula)
        order = ("c", "b", "a")
        names_in(formula), is_yes(formula, ("a",)), rows_of(formula, order), hangs_on(formula)
        self.assertEqual(formula, before)
        self.assertEqual(order, ("c", "b", "a"))


class NamesIn(Refusing):
    def test_each_once_as_met(self):
        for formula, names in [
            (YES, []), (A, ["a"]), (("and", B, ("or", A, B)), ["b", "a"]),
            (("put", "c", B, A), ["c", "b", "a"]), (("if", C, A, B), ["c", "a", "b"]),
            (("some", "z", ("all", "y", A)), ["z", "y", "a"]), (("xor", ("not", C), ("some", "a", B)), ["c", "a", "b"]),
        ]:
            self.assertEqual(names_in(formula), names)

    def test_random_ones(self):
        chance = chances(2)
        for _ in range(300):
            formula = random_formula(chance, TEN, 6)
            self.assertEqual(names_in(formula), plain_names(formula))

    def test_a_new_list_each_time(self):
        names_in(A).append("b")
        self.assertEqual(names_in(A), ["a"])

    def test_refused(self):
        for kind, thing in nothings():
            with self.subTest(kind):
                self.assertEqual(self.refused(BadFormula, names_in, thing).place, plain_refusal(thing))


class HangsOn(Refusing):
    def test_not_on_each_name_in_it(self):
        for formula, names in [
            (YES, ()), (A, ("a",)), (("and", B, A), ("a", "b")), (("or", A, ("not", A)), ()),
            (("xor", A, A), ()), (("some", "a", ("and", A, B)), ("b",)), (("all", "a", ("and", A, B)), ()),
            (("put", "a", B, A), ("b",)), (("if", C, A, A), ("a",)), (("and", A, ("or", A, B)), ("a",)),
            (("put", "a", NO, ("or", A, ("and", C, B))), ("b", "c")),
        ]:
            self.assertEqual(hangs_on(formula), names)

    def test_random_ones(self):
        chance = chances(3)
        for _ in range(300):
            formula = random_formula(chance, "dcba", 5)
            hung = tuple(
                one for one in "abcd"
                if any(plain_yes(formula, with_name(row, one)) != plain_yes(formula, without(row, one))
                       for row in all_rows("abcd"))
            )
            self.assertEqual(hangs_on(formula), hung)

    def test_ten_names(self):
        self.assertEqual(hangs_on(balanced([name(text) for text in TEN[::-1]])), TEN)

    def test_refused(self):
        for kind, thing in nothings():
            with self.subTest(kind):
                self.assertEqual(self.refused(BadFormula, hangs_on, thing).place, plain_refusal(thing))


class DifferAt(Refusing):
    def plain(self, formula, other):
        names = {*plain_names(formula), *plain_names(other)}
        for row in all_rows(names):
            if plain_yes(formula, row) != plain_yes(other, row):
                return row
        return None

    def test_first_row(self):
        for formula, other, row in [
            (A, A, None), (YES, NO, ()), (A, B, ("a",)), (A, ("not", A), ()), (YES, A, ()), (NO, A, ("a",)),
            (("and", A, B), ("and", A, C), ("a", "b")), (("and", B, C), NO, ("b", "c")),
            (("or", ("and", A, B), C), ("and", A, B), ("c",)), (("and", A, ("not", A)), NO, None),
            (("some", "a", A), YES, None), (("put", "a", B, A), B, None),
            (("and", B, C), ("and", A, name("d")), ("a", "d")),
            (("and", A, name("d")), ("and", B, C), ("a", "d")),
        ]:
            with self.subTest(formula=formula, other=other):
                self.assertEqual(differ_at(formula, other), row)
                self.assertEqual(differ_at(other, formula), row)

    def test_random_ones(self):
        chance = chances(5)
        for _ in range(1500):
            first, second = chance.choice([("abc", "abc"), ("abc", "cde"), ("ace", "bdf"), ("abcd", "bcde"),
                                           ("def", "abc"), ("b", "abcde")])
            formula, other = random_formula(chance, first, 4), random_formula(chance, second, 4)
            self.assertEqual(differ_at(formula, other), self.plain(formula, other))

    def test_twenty_names(self):
        first = balanced([name(text) for text in TEN])
        second = balanced([name(text) for text in OTHER_TEN])
        self.assertEqual(differ_at(first, second), TEN)
        self.assertEqual(differ_at(second, first), TEN)
        self.assertEqual(differ_at(("not", first), second), ())
        mixed = [name(text) for text in LETTERS[0:20:2]]
        other = [name(text) for text in LETTERS[1:20:2]]
        self.assertEqual(differ_at(balanced(mixed, "xor"), balanced(other, "xor")), ("a",))
        self.assertEqual(differ_at(balanced(other), balanced(mixed)), tuple(LETTERS[0:20:2]))
        self.assertEqual(differ_at(balanced(mixed, "xor"), balanced(mixed[::-1], "xor")), None)
        both = ("xor", balanced(mixed), NO)
        self.assertEqual(differ_at(both, balanced(mixed)), None)

    def test_some_shared_of_many(self):
        first = balanced([name(text) for text in "abcdefgh"])
        second = balanced([name(text) for text in "defghxyz"])
        self.assertEqual(differ_at(first, second), tuple("abcdefgh"))
        third = ("and", second, ("not", A))
        self.assertEqual(differ_at(third, NO), tuple("defghxyz"))
        self.assertEqual(differ_at(("and", third, B), ("and", first, ("not", B))), tuple("bdefghxyz"))

    def test_refused(self):
        self.assertEqual(self.refused(BadFormula, differ_at, ("not", 5), ("and", A, 5)).place, (0,))
        self.assertEqual(self.refused(BadFormula, differ_at, A, ("and", A, 5)).place, (1,))
        for kind, thing in nothings():
            with self.subTest(kind):
                self.assertEqual(self.refused(BadFormula, differ_at, thing, 5).place, plain_refusal(thing))
                self.assertEqual(self.refused(BadFormula, differ_at, A, thing).place, plain_refusal(thing))


class Joined(Refusing):
    def test_from_the_left(self):
        for word in ("and", "or", "xor"):
            self.assertEqual(joined(word, (A, B, C)), (word, (word, A, B), C))
            self.assertEqual(joined(word, (A, B)), (word, A, B))
            self.assertEqual(joined(word, (A,)), A)
            self.assertEqual(joined(word, (A,), empty=NO), A)
            self.assertEqual(joined(word, ()), YES)
            self.assertEqual(joined(word, (), empty=("not", B)), ("not", B))

    def test_ten_but_no_more(self):
        ten = joined("and", (A,) * 10)
        self.assertEqual(count_parts(ten), 19)
        self.assertEqual(ten, nested_left("and", 10))
        self.assertEqual(self.refused(BadFormula, joined, "and", (A,) * 11).place, (0,) * 10)
        self.assertEqual(self.refused(BadFormula, joined, "and", (A,) * 20000).place, (0,) * 10)
        self.assertEqual(self.refused(BadFormula, joined, "and", (5,) * 11).place, (0,) * 10)

    def test_ways_are_those_in_the_whole(self):
        self.assertEqual(self.refused(BadFormula, joined, "or", (5,)).place, ())
        self.assertEqual(self.refused(BadFormula, joined, "or", (("not", 5),)).place, (0,))
        self.assertEqual(self.refused(BadFormula, joined, "or", (A, 5)).place, (1,))
        self.assertEqual(self.refused(BadFormula, joined, "or", (5, A)).place, (0,))
        self.assertEqual(self.refused(BadFormula, joined, "or", (A, B, 5)).place, (1,))
        self.assertEqual(self.refused(BadFormula, joined, "or", (A, ("not", 5), B, C)).place, (0, 0, 1, 0))
        deep_one = nested(("not",), 9)
        self.assertEqual(self.refused(BadFormula, joined, "or", (A, deep_one)).place, (1, *(0,) * 9))
        ten = balanced([name(text) for text in TEN])
        self.assertEqual(self.refused(BadFormula, joined, "or", (ten, name("k"), 5)).place, (0, 1))
        self.assertEqual(self.refused(BadFormula, joined, "or", (balanced([A] * 30), B)).place, (1,))

    def test_empty_is_looked_at_last_but_always(self):
        self.assertEqual(self.refused(BadFormula, joined, "or", (), empty=("not", 5)).place, (0,))
        self.assertEqual(self.refused(BadFormula, joined, "or", (A,), empty=("and", A, 5)).place, (1,))
        self.assertEqual(self.refused(BadFormula, joined, "or", (A, 5), empty=("not", 5)).place, (1,))
        self.assertEqual(self.refused(BadFormula, joined, "or", (A, B), empty=None).place, ())

    def test_other_words_and_no_tuples(self):
        for word in ("not", "if", "yes", "", "And", "and ", None, 5, True, ["and"], {}, ("and",), deep(())):
            self.refused(BadQuestion, joined, word, (A, B))
            self.refused(BadQuestion, joined, word, [5], empty=5)
            self.refused(BadQuestion, joined, word, (5,), empty=5)
        for things in (None, [A, B], "and", {}, 5, True):
            self.refused(BadQuestion, joined, "and", things)
            self.refused(BadQuestion, joined, "and", things, empty=5)
        for kind, thing in nothings():
            with self.subTest(kind):
                self.refused(BadQuestion, joined, thing, (A,))
                self.refused(BadFormula, joined, "and", (A, thing))
                self.refused(BadFormula, joined, "and", (A,), empty=thing)
                self.refused(BadFormula if type(thing) is tuple else BadQuestion, joined, "and", thing)

    def test_empty_is_handed_in_by_its_name_alone(self):
        with self.assertRaises(TypeError):
            joined("and", (A,), NO)


def nested_left(word, times):
    whole = A
    for _ in range(times - 1):
        whole = (word, whole, A)
    return whole


class Speed(unittest.TestCase):
    def test_the_greatest_questions_many_times(self):
        leaves = [name(text) for text in TEN * 3]
        others = [name(text) for text in OTHER_TEN * 3]
        formula, other = balanced(leaves, "xor"), balanced(others, "or")
        for _ in range(300):
            self.assertEqual(differ_at(formula, other), ("a",))
            self.assertEqual(len(rows_of(formula, TEN)), 512)

    def test_many_some_within_one_another(self):
        formula = name("a")
        for text in TEN[:9]:
            formula = ("some", text, formula)
        self.assertIs(is_yes(formula, ()), True)
        self.assertEqual(len(rows_of(formula, TEN)), 1024)


class Bounds(unittest.TestCase):
    def test_numbers_of_the_document(self):
        self.assertEqual((MOST_NAMES, MOST_PARTS), (10, 60))


if __name__ == "__main__":
    unittest.main()
