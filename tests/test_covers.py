import unittest
from itertools import product

from knotweb.covers import cover_of, cover_paper, need_cover, primes_of
from knotweb.errors import BadFormula, BadPaper, BadQuestion
from knotweb.formulas import NO, YES, rows_of
from knotweb.formulatexts import read_formula
from tests.plain import chances, deep, doubled, name, nothings, random_formula
from tests.plainweb import function_of, functions_of, hangs, is_row, row_key, rows_by
from tests.refusing import Refusing

SIX = ("and", ("xor", ("xor", name("a"), name("b")), name("c")), ("xor", ("xor", name("d"), name("e")), name("f")))
SEVEN = ("xor", SIX, name("g"))
# It has seven names, but hangs on six of them.
SIX_OF_SEVEN = ("or", SIX, ("and", name("g"), ("not", name("g"))))


def halved(word, parts):
    """Formulas joined by halves, so that they are as little within one another as can be."""
    if len(parts) == 1:
        return parts[0]
    middle = len(parts) // 2
    return (word, halved(word, parts[:middle]), halved(word, parts[middle:]))


def formula_of_rows(rows, names):
    """Some formula that is yes at just these rows; it may be of any size."""
    parts = [halved("and", [name(one) if one in row else ("not", name(one)) for one in names] or [YES]) for row in rows]
    return halved("or", parts or [NO])


def cube_key(cube):
    return (len(cube[0]) + len(cube[1]), row_key(cube[0]), row_key(cube[1]))


def all_cubes(names):
    for kinds in product("yn-", repeat=len(names)):
        yield tuple(tuple(one for one, its in zip(names, kinds) if its == kind) for kind in "yn")


def covered(cube, names):
    """The rows that a cube covers."""
    return frozenset(row for row in rows_by(names) if set(cube[0]) <= set(row) and not set(cube[1]) & set(row))


def plain_primes(function, names):
    def is_fine(cube):
        return covered(cube, names) <= function

    def lesser(cube):
        for at in (0, 1):
            for one in cube[at]:
                less = list(cube)
                less[at] = tuple(other for other in cube[at] if other != one)
                yield tuple(less)

    primes = [cube for cube in all_cubes(names) if is_fine(cube) and not any(is_fine(less) for less in lesser(cube))]
    return tuple(sorted(primes, key=cube_key))


def alone_by(cubes, number, names):
    """The rows that one of some cubes covers, and no other one."""
    others = [covered(cube, names) for at, cube in enumerate(cubes) if at != number]
    return covered(cubes[number], names).difference(*others)


def plain_cover(primes, names):
    left = list(primes)
    for cube in reversed(primes):
        if not alone_by(left, left.index(cube), names):
            left.remove(cube)
    return tuple(left)


def first_of(rows):
    return min(rows, key=row_key)


def plain_paper(cover, names):
    return tuple(first_of(alone_by(cover, at, names)) for at in range(len(cover)))


def plain_refusal(function, names, cover, rows):
    """The place by which a cover and rows are refused, None for such as are fine."""
    primes = plain_primes(function, names)
    if type(cover) is not tuple:
        return ("cover",)
    for number, cube in enumerate(cover):
        if not (type(cube) is tuple and len(cube) == 2 and all(is_row(row, names) for row in cube) and cube in primes):
            return ("cube", number)
    lacking = function.difference(*(covered(cube, names) for cube in cover))
    if lacking:
        return ("lacks", first_of(lacking))
    if type(rows) is not tuple or len(rows) != len(cover):
        return ("rows",)
    for number, row in enumerate(rows):
        if not is_row(row, names) or row not in alone_by(cover, number, names):
            return ("row", number)
    return None


class Told(Refusing):
    def test_of_a_few(self):
        for text, primes, cover, paper in [
            ("1", (((), ()),), (((), ()),), ((),)),
            ("0", (), (), ()),
            ("a", ((("a",), ()),), ((("a",), ()),), (("a",),)),
            ("!a", (((), ("a",)),), (((), ("a",)),), ((),)),
            ("a | !a", (((), ()),), (((), ()),), ((),)),
            ("a | b", ((("a",), ()), (("b",), ())), ((("a",), ()), (("b",), ())), (("a",), ("b",))),
            ("a ^ b", ((("a",), ("b",)), (("b",), ("a",))), ((("a",), ("b",)), (("b",), ("a",))), (("a",), ("b",))),
            ("a ? b : c", ((("c",), ("a",)), (("a", "b"), ()), (("b", "c"), ())),
             ((("c",), ("a",)), (("a", "b"), ())), (("c",), ("a", "b"))),
        ]:
            formula = read_formula(text)
            with self.subTest(text):
                self.assertEqual(primes_of(formula), primes)
                self.assertEqual(cover_of(formula), cover)
                self.assertEqual(cover_paper(formula), paper)
                self.assertIs(need_cover(formula, cover, paper), cover)

    def test_names_on_which_it_does_not_hang_are_in_none(self):
        formula = read_formula("a & (x | !x) | y & !y")
        self.assertEqual(primes_of(formula), ((("a",), ()),))
        self.assertEqual(cover_paper(formula), (("a",),))
        self.assertEqual(need_cover(formula, ((("a",), ()),), (("a",),)), ((("a",), ()),))
        self.assert_place(BadPaper, ("row", 0), need_cover, formula, ((("a",), ()),), (("a", "x"),))
        self.assert_place(BadPaper, ("cube", 0), need_cover, formula, ((("a", "x"), ()),), (("a",),))

    def test_all_functions_of_three_names(self):
        names = ("a", "b", "c")
        for function in functions_of(names):
            formula = formula_of_rows(sorted(function), names)
            if len(function) > 4:
                formula = ("not", formula_of_rows(sorted(frozenset(rows_by(names)) - function), names))
            self.look_at(formula, function, names)

    def look_at(self, formula, function, names):
        """Holds all that's told of a function against the plain double."""
        hung = hangs(function, names)
        own = frozenset(row for row in function if set(row) <= set(hung))
        primes = plain_primes(own, hung)
        self.assertEqual(primes_of(formula), primes)
        cover = plain_cover(primes, hung)
        self.assertEqual(cover_of(formula), cover)
        paper = plain_paper(cover, hung)
        self.assertEqual(cover_paper(formula), paper)
        self.assertIs(need_cover(formula, cover, paper), cover)
        self.assertEqual(frozenset().union(*(covered(cube, hung) for cube in cover)), own)

    def test_drawn_functions_of_more_names(self):
        chance = chances(71)
        for names, many in (("abcd", 60), ("wxyz", 20), ("abcde", 12), ("abcdef", 3)):
            for _ in range(many):
                formula = random_formula(chance, names, 5)
                self.look_at(formula, function_of(formula, tuple(names)), tuple(names))

    def test_functions_that_are_yes_nearly_everywhere(self):
        # Many primes cover the same rows, so of these many go.
        chance = chances(73)
        names = ("a", "b", "c", "d")
        for _ in range(80):
            left_out = frozenset(chance.sample(rows_by(names), chance.choice([2, 3, 4])))
            formula = ("not", formula_of_rows(sorted(left_out), names))
            self.look_at(formula, frozenset(rows_by(names)) - left_out, names)

    def test_six_names_and_seven(self):
        primes = primes_of(SIX)
        self.assertEqual(len(primes), 16)
        self.assertEqual({len(yes) + len(no) for yes, no in primes}, {6})
        self.assertEqual(cover_of(SIX), primes)
        self.assertEqual(cover_paper(SIX), tuple(rows_of(SIX, tuple("abcdef"))))
        self.assertEqual(cover_of(SIX_OF_SEVEN), primes)
        for call in (primes_of, cover_of, cover_paper):
            self.refused(BadQuestion, call, SEVEN)
        self.refused(BadQuestion, need_cover, SEVEN, 5, 5)

    def test_many_primes(self):
        formula = read_formula("(a | b | c | d | e | f) & !(a & b & c & d & e & f)")
        names = tuple("abcdef")
        self.assertEqual(primes_of(formula), tuple(sorted(
            (((one,), (other,)) for one in names for other in names if one != other), key=cube_key)))
        self.look_at(formula, function_of(formula, names), names)

    def test_formulas_are_refused_first(self):
        for call, more in ((primes_of, ()), (cover_of, ()), (cover_paper, ()), (need_cover, (5, 5))):
            self.assert_place(BadFormula, (0,), call, ("not", 5), *more)
            for kind, thing in nothings():
                with self.subTest(kind):
                    self.refused(BadFormula, call, thing, *more)


class NeedCover(Refusing):
    F = read_formula("a ? b : c")
    COVER = ((("c",), ("a",)), (("a", "b"), ()))
    PRIMES = ((("c",), ("a",)), (("a", "b"), ()), (("b", "c"), ()))
    ROWS = (("c",), ("a", "b"))

    def test_by_hand(self):
        first, second, third = self.PRIMES
        for cover, rows, place in [
            (None, None, ("cover",)), ([first, second], self.ROWS, ("cover",)), ((), (), ("lacks", ("c",))),
            ((5,), 5, ("cube", 0)), ((first, second, 5), self.ROWS, ("cube", 2)), ((list(first),), 5, ("cube", 0)),
            ((first, (("a", "b", "c"), ())), self.ROWS, ("cube", 1)), (((("c",), ["a"]),), 5, ("cube", 0)),
            ((first[::-1],), 5, ("cube", 0)), ((((), ()),), 5, ("cube", 0)), ((first, (*second, ())), 5, ("cube", 1)),
            ((first,), 5, ("lacks", ("a", "b"))), ((second,), (), ("lacks", ("c",))),
            ((first, third), 5, ("lacks", ("a", "b"))), ((first, second), None, ("rows",)),
            (self.COVER, list(self.ROWS), ("rows",)), (self.COVER, self.ROWS[:1], ("rows",)),
            (self.COVER, (*self.ROWS, ()), ("rows",)), (self.COVER, (5, 5), ("row", 0)),
            (self.COVER, (("c",), 5), ("row", 1)), (self.COVER, (("c",), ["a", "b"]), ("row", 1)),
            (self.COVER, (("c",), ("c",)), ("row", 1)), (self.COVER, (("b",), ("a", "b")), ("row", 0)),
            (self.COVER, (("c",), ("a", "b", "d")), ("row", 1)), (self.COVER, (("c",), ("b", "a")), ("row", 1)),
            # One too many, or one by twice: none is covered by it alone.
            (self.PRIMES, (("c",), ("a", "b"), ("b", "c")), ("row", 2)),
            (self.PRIMES, (("b", "c"), ("a", "b"), ("b", "c")), ("row", 0)),
            ((first, second, first), (("c",), ("a", "b"), ("c",)), ("row", 0)),
            ((first, second, second), (("c",), ("a", "b"), ("a", "b")), ("row", 1)),
        ]:
            with self.subTest(cover=cover, rows=rows):
                self.assert_place(BadPaper, place, need_cover, self.F, cover, rows)
        for cover, rows in [
            (self.COVER, self.ROWS), (self.COVER, (("b", "c"), ("a", "b", "c"))),
            (self.COVER[::-1], self.ROWS[::-1]), ((first, second), (("c",), ("a", "b", "c"))),
        ]:
            self.assertIs(need_cover(self.F, cover, rows), cover)

    def test_of_yes_and_no(self):
        self.assertEqual(need_cover(NO, (), ()), ())
        self.assertEqual(need_cover(YES, (((), ()),), ((),)), (((), ()),))
        self.assert_place(BadPaper, ("lacks", ()), need_cover, YES, (), ())
        self.assert_place(BadPaper, ("cube", 0), need_cover, NO, (((), ()),), ((),))
        self.assert_place(BadPaper, ("rows",), need_cover, NO, (), ((),))
        self.assert_place(BadPaper, ("row", 0), need_cover, YES, (((), ()),), (("a",),))
        self.assert_place(BadPaper, ("row", 0), need_cover, YES, (((), ()), ((), ())), ((), ()))

    def test_drawn_covers(self):
        chance = chances(72)
        names = ("a", "b", "c")
        fine = 0
        for _ in range(400):
            formula = random_formula(chance, names, 4)
            function = function_of(formula, names)
            hung = hangs(function, names)
            own = frozenset(row for row in function if set(row) <= set(hung))
            primes = plain_primes(own, hung)
            cover = list(plain_cover(primes, hung))
            for _ in range(chance.choice([0, 0, 1, 1, 2])):
                cover.insert(chance.randrange(len(cover) + 1), chance.choice(
                    [*primes, *primes, ((), ()), (("a",), ("b",)), 5, (("a",), 5), (("a",), ("a",)), ["a"]]))
            if cover and chance.random() < 0.3:
                cover.pop(chance.randrange(len(cover)))
            drawn = tuple(cover)
            rows = []
            for number, cube in enumerate(drawn):
                alone = covered(cube, hung) if type(cube) is tuple and len(cube) == 2 and 5 not in cube else ()
                rows.append(chance.choice([*sorted(alone), *rows_by(hung), ("z",), 5] if chance.random() < 0.4
                                          else [*sorted(alone), ()]))
            if chance.random() < 0.1:
                rows.append(())
            place = plain_refusal(own, hung, drawn, tuple(rows))
            if place is None:
                fine += 1
                self.assertIs(need_cover(formula, drawn, tuple(rows)), drawn)
            else:
                self.assert_place(BadPaper, place, need_cover, formula, drawn, tuple(rows))
        self.assertGreater(fine, 40)

    def test_anything_is_refused(self):
        for kind, thing in nothings():
            with self.subTest(kind):
                if type(thing) is not tuple:
                    self.assert_place(BadPaper, ("cover",), need_cover, self.F, thing, thing)
                    self.assert_place(BadPaper, ("rows",), need_cover, self.F, self.COVER, thing)
                else:
                    self.assert_place(BadPaper, ("cube", 0), need_cover, self.F, thing, thing)
                self.assert_place(BadPaper, ("cube", 2), need_cover, self.F, (*self.COVER, thing), thing)
                self.assert_place(BadPaper, ("cube", 0), need_cover, self.F, ((("c",), thing),), thing)
                self.assert_place(BadPaper, ("cube", 0), need_cover, self.F, ((thing, ("a",)),), thing)
                self.assert_place(BadPaper, ("row", 1), need_cover, self.F, self.COVER, (("c",), thing))
        for thing in (deep(()), doubled(())):
            self.assert_place(BadPaper, ("cube", 0), need_cover, self.F, thing, thing)


if __name__ == "__main__":
    unittest.main()
