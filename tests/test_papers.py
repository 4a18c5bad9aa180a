import unittest
from itertools import permutations

from knotweb.errors import BadFormula, BadOrder, BadPaper, BadQuestion
from knotweb.formulas import NO, YES, differ_at, hangs_on
from knotweb.papers import is_apart, need_paper, paper_of
from knotweb.tables import table_of
from tests.plain import all_rows, chances, deep, doubled, name, nothings, plain_yes, random_formula
from tests.plainweb import function_of, functions_of, paper, paper_refusal
from tests.refusing import Refusing
from tests.test_tables import TEN, formula_by_rows, parity

A, B, C = name("a"), name("b"), name("c")
AB = ("a", "b")
ABC = ("a", "b", "c")
IF = ("if", A, B, C)


def drawn(chance):
    """Some formula, and an order that has all names on which it hangs."""
    names = chance.choice(["ab", "abcd", "bcde"])
    formula = random_formula(chance, names, chance.choice([2, 4, 6]))
    order = [one for one in "abcdef" if one in hangs_on(formula) or chance.random() < 0.5]
    chance.shuffle(order)
    every = tuple(order) + tuple(one for one in names if one not in order)
    return formula, tuple(order), function_of(formula, every), every


class PaperOf(Refusing):
    def test_of_a_few(self):
        self.assertEqual(paper_of(YES, ()), ())
        self.assertEqual(paper_of(NO, ABC), ())
        self.assertEqual(paper_of(A, ("a",)), ((0, ()),))
        self.assertEqual(paper_of(("not", B), ABC), ((0, ()),))
        self.assertEqual(paper_of(("and", A, B), AB), ((0, ()), (1, ("a",))))
        self.assertEqual(paper_of(("or", A, B), AB), ((0, ()), (1, ())))
        self.assertEqual(paper_of(("xor", A, B), AB), ((0, ()), (1, ())))
        self.assertEqual(paper_of(IF, ABC), ((0, ()), (1, ("a",)), (1, ())))
        self.assertEqual(paper_of(IF, ("b", "a", "c")), ((0, ()), (1, ("b",)), (2, ()), (1, ())))

    def test_k_counts_names_it_doesnt_have_but_rows_dont_have_them(self):
        self.assertEqual(paper_of(("and", A, B), ("x", "a", "y", "b", "z")), ((0, ()), (2, ("a",))))
        formula = ("and", ("or", C, ("not", C)), IF)
        self.assertEqual(paper_of(formula, ("d", "a", "e", "b", "f", "c")), ((0, ()), (2, ("a",)), (2, ())))

    def test_rows_go_in_their_own_order_not_the_orders(self):
        # What's left below c and b hangs on a where just one of both is yes: b's row stands first.
        formula = ("and", ("xor", B, C), A)
        self.assertEqual(paper_of(formula, ("c", "b", "a")), ((0, ()), (1, ("c",)), (2, ("b",)), (1, ())))
        self.assertEqual(paper_of(formula, ("b", "c", "a")), ((0, ()), (1, ("b",)), (2, ("b",)), (1, ())))

    def test_all_functions_of_three_names_by_all_orders(self):
        for function in functions_of(ABC):
            formula = formula_by_rows(function, ABC)
            if len(function) > 4:
                formula = ("not", formula_by_rows(frozenset(all_rows(ABC)) - function, ABC))
            for order in permutations(ABC):
                told = paper_of(formula, order)
                self.assertEqual(told, paper(function, order))
                self.assertIs(need_paper(formula, order, told), told)

    def test_drawn_formulas_by_drawn_orders(self):
        chance = chances(31)
        for _ in range(250):
            formula, order, function, every = drawn(chance)
            told = paper_of(formula, order)
            self.assertEqual(told, paper(function, every))
            self.assertEqual(len(told), len(table_of(formula, order)[1]))
            self.assertIs(need_paper(formula, order, told), told)

    def test_ten_names(self):
        told = paper_of(parity(TEN), TEN[::-1])
        self.assertEqual(told, tuple((many, ()) for many in range(10)))
        pairs = [("and", name(TEN[at]), name(TEN[at + 5])) for at in range(5)]
        whole = pairs[0]
        for pair in pairs[1:]:
            whole = ("or", whole, pair)
        told = paper_of(whole, TEN)
        self.assertEqual(len(told), 62)
        self.assertIs(need_paper(whole, TEN, told), told)

    def test_refused(self):
        for call in (paper_of, lambda formula, order: need_paper(formula, order, 5)):
            self.assert_place(BadFormula, (1,), call, ("and", A, 5), ("a", 7))
            self.assert_place(BadOrder, (1,), call, A, ("b", "b"))
            self.assert_place(BadOrder, (), call, A, TEN + ("k",))
            self.assert_no_such("a", call, A, ())
            self.assert_no_such("b", call, ("and", C, ("and", B, A)), ("a",))
            for kind, thing in nothings():
                with self.subTest(kind):
                    self.refused(BadFormula, call, thing, 5)
                    self.refused(BadOrder, call, A, thing)


class NeedPaper(Refusing):
    def test_papers_are_told_themselves(self):
        for formula, order, thing in [
            (IF, ABC, ()), (YES, (), ()), (IF, ABC, ((0, ()),)), (IF, ABC, ((1, ()), (1, ("a",)))),
            (IF, ABC, ((1, ("a",)), (0, ()), (1, ()))), (IF, ABC, ((2, ("b",)),)), (IF, ABC, ((2, ()), (0, ()))),
            (("and", A, B), ("x", "a", "b"), ((2, ("a", "x")), (1, ("x",)))),
            (B, ("x", "b", "y"), ((1, ("x",)),)),
        ]:
            self.assertIs(need_paper(formula, order, thing), thing)

    def test_refused_at_the_first_that_is_wrong(self):
        for thing, place in [
            (None, ()), ([], ()), ({}, ()), ("", ()), (5, ()), (((0, ()),) * 2001, ()), (((0, ()),) * 2000, (1,)),
            ((5,), (0,)), ((0, ()), (0,)), (((0, ()), None), (1,)), (((0,),), (0,)), (((0, (), ()),), (0,)),
            (([0, ()],), (0,)), (((0, []),), (0,)), (((-1, ()),), (0,)), (((4, ()),), (0,)), (((True, ("a",)),), (0,)),
            (((False, ()),), (0,)), ((("0", ()),), (0,)), (((None, ()),), (0,)), (((0, ("a",)),), (0,)),
            (((1, ("b",)),), (0,)), (((2, ("b", "a")),), (0,)), (((2, ("a", "a")),), (0,)), (((2, ("c",)),), (0,)),
            (((3, ()),), (0,)), (((3, ("a", "b", "c")),), (0,)), (((2, ("a",)),), (0,)), (((10 ** 3999, ()),), (0,)),
            (((0, ()), (0, ())), (1,)), (((1, ("a",)), (1, ("a",))), (1,)), (((1, ()), (2, ()), 5), (1,)),
            (((2, ("b",)), (1, ()), 5), (1,)), (((0, ()), (1, ()), (1, ("a",)), (1, ("a",))), (3,)),
            (((0, 5),), (0,)), (((1, (["a"],)),), (0,)), (((1, "a"),), (0,)), (((0, ()), (1, (5,))), (1,)),
        ]:
            with self.subTest(place=place):
                self.assert_place(BadPaper, place, need_paper, IF, ABC, thing)
        contrary = ("xor", A, ("xor", B, C))
        self.assertEqual(need_paper(contrary, ABC, ((1, ()), (2, ()))), ((1, ()), (2, ())))
        self.assert_place(BadPaper, (1,), need_paper, contrary, ABC, ((1, ()), (1, ("a",))))
        self.assert_place(BadPaper, (2,), need_paper, contrary, ABC, ((2, ("a",)), (0, ()), (2, ("b",)), 5))
        self.assert_place(BadPaper, (0,), need_paper, YES, (), ((0, ()),))

    def test_drawn_things_against_the_plain_look(self):
        chance = chances(32)
        fine = 0
        for _ in range(400):
            formula, order, function, every = drawn(chance)
            told = list(paper_of(formula, order))
            chance.shuffle(told)
            for _ in range(chance.randrange(4)):
                many = chance.randrange(-1, len(order) + 2)
                names = order[:max(many, 0)] if chance.random() < 0.9 else order
                row = tuple(sorted(one for one in names if chance.random() < 0.5))
                told.insert(chance.randrange(len(told) + 1), (many, row))
            if chance.random() < 0.5:
                told = told[:len(told) // 2]
            thing = tuple(told)
            place = paper_refusal(function, every, thing)
            # The plain look has an order of all names, in which so many more may be there.
            beyond = [at for at, pair in enumerate(thing) if pair[0] > len(order)]
            if beyond and (place is None or place[0] > beyond[0]):
                place = (beyond[0],)
            if place is None:
                fine += 1
                self.assertIs(need_paper(formula, order, thing), thing)
            else:
                self.assert_place(BadPaper, place, need_paper, formula, order, thing)
        self.assertGreater(fine, 50)

    def test_anything_is_refused(self):
        for kind, thing in nothings():
            with self.subTest(kind):
                self.assert_place(
                    BadPaper, () if type(thing) is not tuple else (0,), need_paper, A, AB, thing)
                self.assert_place(BadPaper, (1,), need_paper, A, AB, ((0, ()), thing, 5))
                self.assert_place(BadPaper, (0,), need_paper, A, AB, ((0, thing),))
                if type(thing) is not int or abs(thing) > 5:
                    self.assert_place(BadPaper, (0,), need_paper, A, AB, ((thing, ()),))


class IsApart(Refusing):
    def test_drawn_formulas(self):
        chance = chances(33)
        for _ in range(200):
            formula, other = random_formula(chance, "abc", 4), random_formula(chance, "bcd", 4)
            for row in all_rows("abcd"):
                told = is_apart(formula, other, row)
                self.assertIs(told, plain_yes(formula, row) != plain_yes(other, row))
            first = differ_at(formula, other)
            if first is not None:
                self.assertIs(is_apart(formula, other, first), True)

    def test_rows_may_have_any_names(self):
        self.assertIs(is_apart(A, B, ("b", "x", "y")), True)
        self.assertIs(is_apart(A, B, ("x",)), False)
        many = tuple("abcdefghijklmnopqrstuvwxyz")
        self.assertIs(is_apart(A, ("not", A), many), True)
        self.assertIs(is_apart(name("q"), name("z"), many), False)

    def test_refused(self):
        self.assert_place(BadFormula, (0,), is_apart, ("not", 5), ("and", A, 5), 5)
        self.assert_place(BadFormula, (1,), is_apart, A, ("and", A, 5), 5)
        for row in (["a"], None, "a", ("b", "a"), ("a", "a"), ("A",), (5,), (("a",),), True, ("abcdefghi",)):
            self.refused(BadQuestion, is_apart, A, B, row)
        for kind, thing in nothings() + [("deep", deep(("a",))), ("doubled", doubled(("a",)))]:
            with self.subTest(kind):
                self.refused(BadFormula, is_apart, thing, A, ())
                self.refused(BadFormula, is_apart, A, thing, ())
                self.refused(BadQuestion, is_apart, A, B, thing)


if __name__ == "__main__":
    unittest.main()
