import re
import unittest
from itertools import permutations

from knotweb.errors import BadOrder, BadQuestion, BadTable, BadText, NoSuch, TooGreat
from knotweb.formulas import NO, YES
from knotweb.formulatexts import read_formula
from knotweb.tables import need_table, table_of
from knotweb.tabletexts import read_table, table_text, taken
from knotweb.webs import Web
from tests.plain import chances, name, nothings, plain_yes, random_formula
from tests.plainweb import (
    PlainWeb, Refusal, functions_of, hangs, row_key, rows_by, table, table_refusal,
)
from tests.refusing import Refusing

AB = ("a", "b")
ABC = ("a", "b", "c")
TEN = tuple("abcdefghij")

EDGE = "(?:yes|no|!?(?:0|[1-9][0-9]{0,3}))"
NAME = "[a-z]{1,8}"


def plain_edge(word):
    return {"yes": (-1, False), "no": (-1, True)}.get(word) or (int(word.lstrip("!")), word[0] == "!")


def plain_read(text):
    """("row", number) or (order, table) of a text, by the words of [32]."""
    if type(text) is not str or len(text) > 60000:
        return ("row", -1)
    rows = text.split("\n")
    for at, row in enumerate(rows):
        form = [f"order(?: {NAME})*", f"edge {EDGE}", f"knot {NAME} {EDGE} {EDGE}"][min(at, 2)]
        if not re.fullmatch(form, row):
            return ("row", at)
        words = row.split(" ")
        if at == 0 and (len(words) > 11 or len(set(words[1:])) < len(words) - 1):
            return ("row", 0)
    if len(rows) < 2:
        return ("row", len(rows))
    order = tuple(rows[0].split(" ")[1:])
    knots = [row.split(" ") for row in rows[2:]]
    told = (plain_edge(rows[1].split(" ")[1]), tuple((k[1], plain_edge(k[2]), plain_edge(k[3])) for k in knots))
    place = table_refusal(order, told)
    if place is None:
        return (order, told)
    return ("row", 1 if place in ((), ("edge",)) else place[-1] + 2)


class Written(Refusing):
    def test_by_hand(self):
        for text, order, told in [
            ("1", (), "order\nedge yes"), ("0", (), "order\nedge no"), ("1", ("a",), "order a\nedge yes"),
            ("a", ("a",), "order a\nedge 0\nknot a yes no"), ("!a", ("b", "a"), "order b a\nedge !0\nknot a yes no"),
            ("a & b", AB, "order a b\nedge 0\nknot a 1 no\nknot b yes no"),
            ("a & word", ("word", "a"), "order word a\nedge 0\nknot word 1 no\nknot a yes no"),
            ("a ^ b", AB, "order a b\nedge !0\nknot a 1 !1\nknot b yes no"),
            ("a ? b & c : !b", ABC, "order a b c\nedge 0\nknot a 1 !3\nknot b 2 no\nknot c yes no\nknot b yes no"),
        ]:
            with self.subTest(text):
                self.assertEqual(table_text(order, table_of(read_formula(text), order)), told)
                self.assertEqual(read_table(told), (order, table_of(read_formula(text), order)))

    def test_refused_as_tables_are(self):
        self.assert_place(BadOrder, (1,), table_text, ("a", "a"), 5)
        self.assert_place(BadTable, (), table_text, AB, ((0, False),))
        self.assert_place(BadTable, ("edge",), table_text, AB, ((0, False), ()))
        self.assert_place(BadTable, (0,), table_text, AB, ((0, False), (("c", (-1, False), (-1, True)),)))
        self.assert_place(BadTable, ("met", 0), table_text, AB, ((-1, False), (("a", (-1, False), (-1, True)),)))
        for kind, thing in nothings():
            with self.subTest(kind):
                self.refused(BadOrder, table_text, thing, thing)
                self.assert_place(BadTable, table_refusal(AB, thing), table_text, AB, thing)

    def test_there_and_back(self):
        for order in permutations("abc"):
            for function in functions_of(order):
                told = table(function, order)
                text = table_text(order, told)
                self.assertEqual(repr(read_table(text)), repr((order, told)))
                self.assertEqual(plain_read(text), (order, told))

    def test_there_and_back_of_many_names(self):
        chance = chances(111)
        for _ in range(60):
            names = tuple(chance.sample(["a", "word", "abcdefgh", "z", "some", "order", "edge", "knot", "yes", "no"],
                10))
            formula = random_formula(chance, names, 7)
            told = table_of(formula, names)
            text = table_text(names, told)
            self.assertEqual(repr(read_table(text)), repr((names, told)))
            self.assertIs(need_table(names, told), told)


class Read(Refusing):
    def assert_row(self, row, text):
        self.assertEqual(plain_read(text), ("row", row), text)
        self.assert_place(BadText, row, read_table, text)

    def test_no_text(self):
        for kind, thing in nothings():
            with self.subTest(kind):
                self.assert_place(BadText, -1, read_table, thing)

    def test_rows_that_cannot_stand_there(self):
        for row, text in [
            (0, ""), (0, "\n"), (0, " "), (0, "order "), (0, " order"), (0, "order a  b"), (0, "Order a"),
            (0, "orders"),
            (0, "order a a"), (0, "order A"), (0, "order abcdefghi"), (0, "order a,b"), (0, "order a1"),
            (0, "order a b c d e f g h i j k\nedge yes"), (0, "edge yes\norder"), (0, "order a b a\nedge 01"),
            (0, "order\tb\nedge yes"), (0, "order a \nedge yes"), (0, "\norder\nedge yes"),
            (1, "order"), (1, "order a b"), (1, "order\n"), (1, "order\n\nedge yes"), (1, "order\nedge"),
            (1, "order\nedge "), (1, "order\nedge yes "), (1, "order\nedge  yes"), (1, "order\n edge yes"),
            (1, "order\nedge !yes"), (1, "order\nedge !no"), (1, "order\nedge !"), (1, "order\nedge -1"),
            (1, "order\nedge 00"),
            (1, "order\nedge 01"), (1, "order\nedge !01"), (1, "order\nedge !!0"), (1, "order\nedge ! 0"),
            (1, "order\nedge +1"),
            (1, "order\nedge 10000"), (1, "order\nedge !10000"), (1, "order\nedge 1_0"), (1, "order\nedge 0x1"),
            (1, "order\nedge yes no"), (1, "order\nedge Yes"), (1, "order\nknot a yes no"), (1, "order\nedge yes\r"),
            (2, "order\nedge yes\n"), (2, "order\nedge yes\n\n"), (2, "order\nedge yes\nedge yes"),
            (2, "order a\nedge 0\nknot a yes"),
            (2, "order a\nedge 0\nknot a yes no no"), (2, "order a\nedge 0\nknot a yes no "),
            (2, "order a\nedge 0\n knot a yes no"),
            (2, "order a\nedge 0\nknot a  yes no"), (2, "order a\nedge 0\nknot A yes no"),
            (2, "order a\nedge 0\nknot abcdefghi yes no"),
            (2, "order a\nedge 0\nknot a yes 00"), (2, "order a\nedge 0\nknot a 10000 no"),
            (2, "order a\nedge 0\nknot a yes !no"),
            (3, "order a\nedge 0\nknot a yes no\n"), (3, "order a\nedge 0\nknot a yes no\nknot"),
            (2, "order a\nedge 0\nknots a yes no"),
            (4, "order a\nedge 0\nknot a 9999 9999\nknot z 5 5\nknot a yes 01"),
        ]:
            with self.subTest(text=text):
                self.assert_row(row, text)

    def test_what_is_no_table_behind_that(self):
        for row, text in [
            (1, "order\nedge 0"), (1, "order a\nedge 9999\nknot a yes no"), (1, "order a\nedge !1\nknot b yes no"),
            (2, "order a\nedge 0\nknot b yes no"), (2, "order a\nedge 0\nknot a yes yes"),
            (2, "order a\nedge 0\nknot a no yes"),
            (2, "order a\nedge 0\nknot a !0 yes"), (2, "order a\nedge 0\nknot a 1 yes"),
            (2, "order a\nedge 0\nknot a 0 yes"),
            (2, "order a\nedge yes\nknot a yes no"), (3, "order a b\nedge 0\nknot a 1 no\nknot b 9999 no"),
            (3, "order a b\nedge 0\nknot a yes no\nknot b yes no"),
            (2, "order a b\nedge 0\nknot b 1 no\nknot a yes no"),
            (3, "order a b\nedge 0\nknot a yes no\nknot a yes no"),
            (2, "order a b\nedge 1\nknot b yes no\nknot a 0 no"),
            (3, "order a b c\nedge 0\nknot a 2 1\nknot b yes no\nknot c yes no"),
            # The places of [9] go one behind the other, whatever their rows.
            (4, "order a b\nedge 0\nknot a yes no\nknot a yes no\nknot b yes 0"),
        ]:
            with self.subTest(text=text):
                self.assert_row(row, text)

    def test_form_ahead_of_all_that_is_no_table(self):
        self.assert_row(3, "order a\nedge 5\nknot z yes yes\nknot a yes")
        self.assert_row(4, "order a\nedge 0\nknot a no no\nknot b yes no\n")
        for row in ("knot A yes no", "knot abcdefghi yes no", "knot a 10000 no", "knot a yes !10000", "knot a 01 no",
            "knot a yes"):
            self.assert_row(3, f"order a\nedge 0\nknot a no yes\n{row}")
            self.assert_row(2, f"order a\nedge 7\n{row}\nknots a yes no")
        self.assert_row(1, "order a\nedge 10000\nknots a yes no")
        self.assert_row(2, "order a\nedge 9999\nknots a yes no")

    def test_signs(self):
        rows = "order\nedge yes"
        self.assert_row(2, rows + "\n" * (60000 - len(rows)))
        self.assert_row(-1, rows + "\n" * (60001 - len(rows)))
        self.assert_row(-1, "a" * 60001)
        self.assert_row(0, "a" * 60000)

    def test_two_thousand_knots_and_one_more(self):
        row = "\nknot a yes no"
        self.assert_row(3, "order a\nedge 0" + row * 2000)
        self.assert_row(1, "order a\nedge 0" + row * 2001)
        self.assert_row(2002, "order a\nedge 0" + row * 2000 + "\nknot a yes")

    def test_one_sign_otherwise_at_any_place(self):
        chance = chances(112)
        texts = [table_text(order, table_of(read_formula(text), order)) for text, order in [
            ("a ^ b & c", ABC), ("1", ()), ("!a", ("b", "a")), ("a ? b & c : !b", ABC),
            ("a ? b ^ c : c", ("c", "b", "a")),
        ]]
        fine = 0
        for text in texts:
            for at in range(len(text) + 1):
                for sign in "\n !0123a bcnyesok":
                    fine += self.look_at(text[:at] + sign + text[at:])
                    fine += self.look_at(text[:at] + sign + text[at + 1:])
                fine += self.look_at(text[:at] + text[at + 1:])
        for _ in range(2000):
            words = chance.choice(texts).split(" ")
            words[chance.randrange(len(words))] = chance.choice(["0", "1", "!1", "yes", "no", "a", "b", "2", "!0", "c"])
            fine += self.look_at(" ".join(words))
        self.assertGreater(fine, 50)

    def look_at(self, text):
        """Holds read_table against the plain reader; tells whether it was read."""
        expected = plain_read(text)
        if expected[0] == "row":
            self.assert_place(BadText, expected[1], read_table, text)
            return False
        told = read_table(text)
        self.assertEqual(repr(told), repr(expected))
        self.assertEqual(table_text(*told), text)
        return True


class Taken(Refusing):
    def state(self, web):
        return (web.order(), web.room(), web.handles(), web.many(), [web.table(h) for h in web.handles()])

    def test_by_hand(self):
        web = Web(("c", "b", "a"))
        order, told = read_table("order a x b\nedge !0\nknot a 1 no\nknot b yes no")
        self.assertEqual(taken(web, order, told), 1)
        self.assertEqual(web.table(1), table_of(read_formula("!(a & b)"), ("c", "b", "a")))
        self.assertEqual(web.log(), [("begun", 1), ("done", 1)])
        self.assertEqual(taken(web, (), table_of(YES, ())), 2)
        self.assertEqual(taken(web, TEN, table_of(NO, ())), 3)
        self.assertEqual([web.many_rows(h) for h in (1, 2, 3)], [6, 8, 0])
        self.assertEqual((web.deeds(), web.handles()), (3, [1, 2, 3]))

    def test_refused_ahead_of_the_deed(self):
        web = Web(AB)
        ahead = self.state(web)
        fine = table_of(name("a"), ("a",))
        self.assert_place(BadOrder, (0,), taken, web, (5,), 5)
        self.assert_place(BadTable, (), taken, web, AB, 5)
        self.assert_place(BadTable, (0,), taken, web, ("z",), fine)
        order = ("z", "a", "c")
        self.assert_lacks("c", taken, web, order, table_of(read_formula("z ^ a ^ c"), order))
        self.assert_lacks("z", taken, web, order, table_of(read_formula("z ^ a"), order))
        for kind, thing in nothings():
            with self.subTest(kind):
                self.refused(BadOrder, taken, web, thing, thing)
                self.assert_place(BadTable, table_refusal(AB, thing), taken, web, AB, thing)
        self.assertEqual((self.state(web), web.deeds(), web.log()), (ahead, 0, []))
        self.assertEqual(taken(web, ("z", "a"), table_of(name("a"), ("a",))), 1)

    def test_too_great_is_a_deed(self):
        web = Web(("a", "c", "b", "d"), room=5)
        order = ("a", "b", "c", "d")
        self.assertEqual(taken(web, order, table_of(read_formula("a & b | c & d"), order)), 1)
        # There are six by the order ahead: it was sifted.
        self.assertEqual((web.many(), web.order()), (4, ("a", "b", "d", "c")))
        ahead = self.state(web)
        told = table_of(read_formula("a & c | b & d"), order)
        self.assertEqual(self.refused(TooGreat, taken, web, order, told).knots,
                         self.refused(TooGreat, web.make, read_formula("a & c | b & d")).knots)
        self.assertEqual(self.state(web), ahead)
        self.assertEqual(web.log()[-4:], [("begun", 2), ("refused", 2), ("begun", 3), ("refused", 3)])
        self.assertEqual(taken(web, order, table_of(name("a"), order)), 2)

    def test_drawn_webs(self):
        chance = chances(113)
        sifted = great = 0
        for _ in range(200):
            order = tuple(chance.sample("abcd", chance.choice([2, 3, 4])))
            room = chance.choice([3, 4, 5, 6, 2000])
            web, plain = Web(order, room=room), PlainWeb(order, room)
            for _ in range(6):
                other = tuple(chance.sample("abcdx", chance.choice([2, 3, 4, 5])))
                function = frozenset(row for row in rows_by(other) if chance.random() < 0.5)
                if chance.random() < 0.7:
                    formula = random_formula(chance, other, 3)
                    function = frozenset(row for row in rows_by(other) if plain_yes(formula, row))
                told, hung = table(function, other), sorted(hangs(function, other))
                lacking = [one for one in hung if one not in plain.order]
                if lacking:
                    self.assert_lacks(lacking[0], taken, web, other, told)
                    continue
                rows = frozenset(row for row in rows_by(plain.order)
                                 if tuple(one for one in row if one in hung) in function)
                ahead = plain.order
                expected = plain.deed("of_rows", tuple(sorted(rows, key=row_key)))
                if isinstance(expected, Refusal):
                    great += 1
                    self.assertEqual(self.refused(TooGreat, taken, web, other, told).knots, expected.field)
                else:
                    self.assertEqual(taken(web, other, told), expected)
                    sifted += plain.order != ahead
                self.assertEqual((web.order(), web.log(), web.many()), (plain.order, plain.log, plain.many()))
                for h, its in plain.functions.items():
                    self.assertEqual(web.rows(h), sorted(its, key=row_key))
        self.assertGreater(sifted, 5)
        self.assertGreater(great, 5)

    def test_of_ten_names(self):
        chance = chances(114)
        formula = random_formula(chance, TEN, 8)
        web = Web(TEN[::-1])
        self.assertEqual(taken(web, TEN, table_of(formula, TEN)), web.make(formula) - 1)
        self.assertIs(web.is_one(1, 2), True)
        with self.assertRaises(NoSuch):
            taken(Web(("a",)), TEN, table_of(read_formula("a & b"), TEN))
        with self.assertRaises(BadQuestion):
            web.rows(1, most=-1)


if __name__ == "__main__":
    unittest.main()
