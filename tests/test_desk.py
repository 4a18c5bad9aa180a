import unittest

from knotweb.desk import Desk
from tests.plain import chances, deep, doubled, nothings
from tests.plainsession import PlainDesk

TEN = "abcdefghij"


class Desks(unittest.TestCase):
    def desk(self, *lines):
        desk = Desk()
        for line in lines:
            self.assertEqual(desk.say(line), "done", line)
        return desk

    def assert_said(self, desk, *pairs):
        for line, told in pairs:
            with self.subTest(line=line):
                self.assertEqual(repr(desk.say(line)), repr(told))


class Empty(Desks):
    def test_a_new_desk(self):
        self.assert_said(
            Desk(), ("knots", "0"), ("names", "none"), ("bound", "none"), ("undo", "nothing"),
            ("show 1", "order ; edge yes"),
            ("show 0", "order ; edge no"), ("same 1 , 0", "no empty"), ("same 1 , 1", "yes"), ("count 1", "1"),
            ("count 0", "0"),
            ("row 1", "empty"), ("row 0", "none"), ("share 1", "1/1"), ("share 0", "0/1"), ("least 0", "order 0"),
            ("least 1", "order 0"),
            ("sift", "done"), ("order", "done"), ("room 0", "done"), ("show a", "no such a"), ("free a", "no such a"),
        )

    def test_of_anything(self):
        desk = self.desk("name a", "bind f = a")
        for kind, thing in nothings():
            with self.subTest(kind):
                self.assertEqual(desk.say(thing), "no line")
        for thing in (b"knots", ["knots"], ("knots",), 10 ** 3999, deep(()), doubled(()), {"knots": 1}):
            self.assertEqual(desk.say(thing), "no line")
        self.assert_said(desk, ("names", "a"), ("bound", "f"))


class Deeds(Desks):
    def test_done(self):
        desk = Desk()
        self.assert_said(
            desk, ("name b", "done"), ("name a", "done"), ("names", "b a"), ("bind f = a & b", "done"),
            ("bind g = f | !a", "done"),
            ("bound", "f g"), ("knots", "3"), ("free f", "done"), ("bound", "g"), ("knots", "2"),
            ("order a x b", "done"),
            ("names", "a x b"), ("order a b", "done"), ("names", "a b"), ("room 2", "done"), ("sift", "done"),
            ("free g ; order", "done"), ("names", "none"), ("bound", "none"), ("room 0", "done"), ("room 2000", "done"),
        )

    def test_several_all_or_none(self):
        desk = self.desk("name a ; name b ; bind f = a & b ; order b a ; sift ; room 9 ; bind g = !f ; free f")
        self.assert_said(
            desk, ("bound", "g"), ("undo", "done"), ("names", "none"), ("bound", "none"), ("undo", "nothing"),
            ("name a ; bind f = a ; free f ; free f", "no such f"), ("names", "none"),
            ("name a ; name a", "there a"), ("name a ; bind a = 1", "there a"),
            ("name a ; bind f = a ; name f", "there f"),
            ("name a ; bind f = a ; order", "hangs a"), ("name a ; bind f = a ; room 0", "full 1"),
            ("room 0 ; name a ; bind f = a", "full 1"),
            ("names", "none"), ("knots", "0"), ("undo", "nothing"),
        )

    def test_eight_deeds_and_nine(self):
        desk = self.desk(" ; ".join(["sift"] * 8))
        self.assert_said(desk, (" ; ".join(["sift"] * 9), "no line"), (" ; ".join(["free z"] * 9), "no line"),
            ("undo", "done"),
                         ("undo", "nothing"))

    def test_ten_names_and_eleven(self):
        desk = self.desk("order a b c d e f g h i")
        self.assert_said(desk, ("name j ; name k", "too many"), ("names", "a b c d e f g h i"), ("name j", "done"),
            ("name k", "too many"),
                         ("name a", "there a"), ("bind k = a", "done"), ("name k", "there k"),
                         ("order a b c d e f g h i j l", "no line"),
                         ("free k ; order b c d ; name k", "done"), ("names", "b c d k"))

    def test_refused_as_things_stand(self):
        desk = self.desk("name a ; name b ; bind f = a & b ; bind g = b")
        self.assert_said(
            desk, ("name a", "there a"), ("name f", "there f"), ("bind a = b", "there a"), ("bind a = z", "there a"),
            ("bind h = z", "no such z"), ("bind h = f & q | z", "no such q"), ("bind h = h", "no such h"),
            ("free a", "no such a"),
            ("free h", "no such h"), ("order a", "hangs b"), ("order b", "hangs a"), ("order", "hangs a"),
            ("order a b g f", "there g"),
            ("order f", "there f"), ("room 1", "full 2"), ("room 0", "full 2"), ("room 2", "done"),
            ("bind h = a ^ b", "full 3"),
            ("bind f = a ^ b", "done"), ("bind f = a ^ b ; bind h = a", "full 3"), ("bound", "f g"),
        )

    def test_full_behind_the_sifting(self):
        desk = self.desk("order a c b d", "room 5", "bind f = a & b | c & d")
        self.assert_said(desk, ("names", "a b d c"), ("knots", "4"), ("order a c b d", "full 6"), ("names", "a b d c"))
        told = desk.say("bind g = a & c | b & d")
        self.assertRegex(told, r"\Afull [0-9]+\Z")
        self.assertGreater(int(told[5:]), 5)
        self.assert_said(desk, ("knots", "4"), ("bound", "f"))

    def test_undo(self):
        desk = self.desk("name a", "bind f = a", "bind f = !f ; name b", "room 7")
        self.assert_said(
            desk, ("free q", "no such q"), ("row f", "empty"), ("no", "no line"), ("undo", "done"), ("room 1", "done"),
            ("undo", "done"),
            ("names", "a b"), ("undo", "done"), ("names", "a"), ("row f", "a"), ("undo", "done"), ("bound", "none"),
            ("bind g = 1", "done"), ("undo", "done"), ("undo", "done"), ("names", "none"), ("undo", "nothing"),
            ("undo", "nothing"),
        )

    def test_two_desks_have_nothing_in_common(self):
        first, second = Desk(), Desk()
        self.assert_said(first, ("name a ; bind f = a", "done"))
        self.assert_said(second, ("names", "none"), ("bound", "none"), ("undo", "nothing"))


class Questions(Desks):
    def test_by_hand(self):
        desk = self.desk("name a ; name b ; name c", "bind f = a & b", "bind g = f ^ c")
        self.assert_said(
            desk, ("show f", "order a b c ; edge 0 ; knot a 1 no ; knot b yes no"),
            ("show !g", "order a b c ; edge 0 ; knot a 1 !2 ; knot b 2 !2 ; knot c yes no"),
            ("show g | !g", "order a b c ; edge yes"), ("show c", "order a b c ; edge 0 ; knot c yes no"),
            ("same f , a & b", "yes"), ("same f , a", "no a"), ("same g , c", "no a b"), ("same f , 1", "no empty"),
            ("same g ^ f , c", "yes"), ("count f", "2"), ("count g", "4"), ("count 1", "8"), ("count 0", "0"),
            ("row f", "a b"),
            ("row g", "c"), ("row !a", "empty"), ("row 0", "none"), ("row f & c", "a b c"), ("share f", "1/4"),
            ("share 1", "1/1"),
            ("share 0", "0/1"), ("share g", "1/2"), ("share f , a 1/3", "1/6"), ("share f , b 3/3 a 2/4", "1/2"),
            ("share f , a 0/3", "0/1"), ("share f , a 1/1 b 999/999 c 0/999", "1/1"),
            ("share a | b , a 1/3 b 1/3", "5/9"),
            ("share c , c 0/1", "0/1"), ("least f", "order a b 2"), ("least g", "order a b c 3"),
            ("least c", "order c 1"),
            ("least a & c | b & !f", "order a b c 3"), ("least 0", "order 0"), ("least f | !f", "order 0"),
            ("bound", "f g"), ("names", "a b c"),
            ("knots", "5"),
        )

    def test_within_some_and_all_and_put(self):
        desk = self.desk("name a ; name b", "bind f = a & b")
        self.assert_said(
            desk, ("same some a f , b", "yes"), ("same a := 1 in f , b", "yes"), ("same b := f in b , f", "yes"),
            ("show some f 1", "no such f"), ("count all f f", "no such f"), ("row f := 1 in a", "no such f"),
            ("share a | (some f a)", "no such f"), ("share some f a , z 1/2", "no such f"),
            ("least f | (all f b)", "no such f"),
            ("same some f f , f", "no such f"), ("same f , some f f", "no such f"), ("same z , some f f", "no such z"),
            ("bind g = f := a in f", "no such f"), ("bind f = some f f", "no such f"),
            ("bind a = some f f", "there a"),
            ("bind g = a ; bind h = some g 1", "no such g"), ("bound", "f"), ("free f ; name f", "done"),
            ("show some f f", "order a b f ; edge yes"),
        )

    def test_names_of_kept_words_can_be_told_but_not_in_formulas(self):
        desk = self.desk("name some ; name in ; name all")
        self.assert_said(desk, ("names", "some in all"), ("count 1", "8"), ("show some", "no formula 1"),
            ("show in", "no formula 0"),
                         ("share 1 , some 1/3", "1/1"), ("free all", "no such all"), ("order in", "done"))

    def test_least_of_eight_names_and_nine(self):
        desk = self.desk("order a b c d e f g h i")
        self.assert_said(
            desk, ("least a & b | c & d | e & f | g & h", "order a b c d e f g h 8"),
            ("least a & b | c & d | e & f | g & h | i & !i", "order a b c d e f g h 8"),
            ("least a ^ b ^ c ^ d ^ e ^ f ^ g ^ h ^ i", "great"),
            ("least a ^ b ^ c ^ d ^ e ^ f ^ g ^ h ^ i ^ z", "no such z"),
            ("count a ^ b ^ c ^ d ^ e ^ f ^ g ^ h ^ i", "256"), ("bind z = a ^ b ^ c ^ d ^ e ^ f ^ g ^ h ^ i", "done"),
            ("least z", "great"), ("least z ^ i", "order a b c d e f g h 8"), ("share z", "1/2"),
        )

    def test_shares_that_are_refused(self):
        desk = self.desk("name a ; name b ; bind f = a")
        self.assert_said(
            desk, ("share a , z 1/2", "no such z"), ("share a , f 1/2", "no such f"),
            ("share a , a 1/2 y 1/2 z 1/2", "no such y"),
            ("share x , z 1/2", "no such x"), ("share & , z 1/2", "no formula 0"),
            ("share !!!!!!!!!!a , z 1/2", "great"),
            ("share a , a 3/2", "no line"), ("share a , a 0/0", "no line"), ("share a , a 1/1000", "no line"),
            ("share a , a 01/2", "no line"), ("share a , a 1/02", "no line"), ("share a , a 1/2/3", "no line"),
            ("share a , a 1/2 a 1/2", "no line"),
            ("share a , ", "no line"), ("share a , a", "no line"), ("share a , a 1", "no line"),
            ("share a , a 1/2 b", "no line"),
            ("share a , a  1/2", "no line"), ("share a ,  a 1/2", "no line"), ("share a , a 1/2 ", "no line"),
            ("share a , a -1/2", "no line"),
            ("share a , a /2", "no line"), ("share a , a 1/", "no line"), ("share a , A 1/2", "no line"),
            ("share a , 1/2", "no line"),
            ("share a , a 1/2 , b 1/2", "no line"), ("share & , a 3/2", "no line"),
            ("share x , a 1000/1000", "no line"),
            ("share a , abcdefghi 1/2", "no line"), ("share a , z 999/999", "no such z"),
            ("share a , a 1/999", "1/999"),
        )


class Refused(Desks):
    def test_no_line(self):
        desk = self.desk("name a ; bind f = a")
        for line in [
            "", " ", "  ", "what", "Name b", "name", "name ", "name  b", " name b", "name b ", "name b c", "name B",
            "name abcdefghi",
            "name b1", "name 1", "bind", "bind g", "bind g ", "bind g a", "bind g =a", "bind  g = a", "bind g  = a",
            "bind = a", "bind G = a",
            "bind g == a", " bind g = a", "bindg = a", "free", "free ", "free f g", "free  f", "free F", "free f ",
            "order ", "order  a", "order a  b",
            "order a a", "order A", "order a,b", " order", "orders", "sift ", "sift a", " sift", "siftf", "room",
            "room ", "room 2001",
            "room 10000", "room -1", "room 01", "room 00", "room a", "room 1 2", "room  1", "room +1", "room 1.",
            "undo ", "undo 1", " undo",
            "knots ", "knots a", "names ", "names a", "bound ", "bound f", "same", "same ", "same a", "same a, b",
            "same a ,b", "same a , b , a",
            "same , a", "same , ", "same ,", "same , a , b", "share , a , a 1/2", "share  , ", "share  , a",
            "show", "count", "row", "share", "least", "bind g =", "bind g = ; sift", "name b ; bind g =",
            "bind g = & ; bind h =", "show ; sift", "show\t",
            "name b ; ", " ; name b", "name b ; undo", "name b ; knots", "name b ; show a",
            "show a ; name b", "same a , a ; sift",
            "sift ; ; sift", "sift;sift", "sift ;sift", "sift; sift", "undo ; undo", "name b ;  name c",
            "name b  ; name c", "shows a", "a",
            "name b ; name c ; what", "bind g = & ; what", "what ; bind g = &", "bind g = z ; free", "name\tb",
            "name b\n", "sift\n", "order a\nb",
        ]:
            self.assertEqual(desk.say(line), "no line", repr(line))
        self.assert_said(desk, ("names", "a"), ("bound", "f"), ("undo", "done"), ("undo", "nothing"))

    def test_no_formula(self):
        desk = self.desk("name a ; bind f = a")
        self.assert_said(
            desk, ("show ", "no formula 0"), ("show   ", "no formula 0"), ("count ", "no formula 0"),
            ("row ", "no formula 0"), ("least ", "no formula 0"), ("share ", "no formula 0"),
            ("bind g = ", "no formula 0"), ("bind g =   ", "no formula 0"), ("same  , a", "no formula 0"),
            ("bind g =  ; sift", "no formula 0"), ("bind g = ;", "no formula 0"), ("sift ; bind g = ", "no formula 0"),
            ("same a , ", "no formula 0"), ("same a ,  ", "no formula 0"), ("same  , ", "no formula 0"),
            ("share  , a 1/2", "no formula 0"), ("share   , z 1/2", "no formula 0"),
            # The blank behind the word is gone ahead of the sign: this one stands in F.
            ("share , a 1/2", "no formula 0"), ("share , ", "no formula 0"),
            ("show a &", "no formula 2"), ("show a a", "no formula 1"), ("show (a", "no formula 2"),
            ("show a , a", "no formula 1"),
            ("show a; a", "no formula 1"), ("show A", "no formula 0"), ("bind g = a & & z", "no formula 2"),
            ("bind g = a = a", "no formula 1"),
            ("same a , & b", "no formula 0"), ("same & , &", "no formula 0"), ("same a & , (", "no formula 2"),
            ("bind a = (", "no formula 1"),
            ("bind g = a, a", "no formula 1"), ("show " + "(" * 121, "no formula 120"),
            ("show " + "a" * 4001, "no formula -1"),
            ("show " + " " * 3999 + "a", "order a ; edge 0 ; knot a yes no"),
            ("show " + " " * 4000 + "a", "no formula -1"),
            ("show abcdefghi", "no formula 0"), ("bind g = a ? a", "no formula 3"),
        )

    def test_blanks_within_formulas(self):
        desk = self.desk("name a ; name b")
        self.assert_said(
            desk, ("count  a", "2"), ("count a ", "2"), ("count a&b", "1"), ("count   a   &   b  ", "1"),
            ("bind f =  a |b ", "done"),
            ("bind g = a ;sift", "no formula 1"), ("bind g = a  ; sift", "done"), ("same  a  ,  a ", "yes"),
            ("share  a  , a 1/3", "1/3"),
            ("order a b", "done"), ("show  ! a", "order a b ; edge !0 ; knot a yes no"),
        )

    def test_great(self):
        deep_text = "!" * 10 + "a"
        desk = self.desk("name a")
        eleven = " & ".join("abcdefghijk")
        self.assert_said(
            desk, ("show " + "!" * 9 + "a", "order a ; edge !0 ; knot a yes no"), ("show " + deep_text, "great"),
            ("bind f = " + eleven, "great"),
            ("count " + " ^ ".join(["a"] * 31), "great"), ("same a , " + deep_text, "great"),
            (f"same {deep_text} , a", "great"),
        )

    def test_formula_by_formula(self):
        great = "!" * 10 + "z"
        desk = self.desk("name a")
        self.assert_said(
            desk, (f"same {great} , &", "great"), (f"same & , {great}", "no formula 0"), ("same z , &", "no formula 0"),
            (f"same z , {great}", "great"), (f"bind a = {great} ; bind b = &", "great"),
            (f"bind a = a & ; bind b = {great}", "no formula 2"),
            ("free q ; bind b = &", "no formula 0"), (f"free q ; bind b = {great}", "great"),
            ("bind a = a ; free q ; bind b = z", "there a"),
            ("same y , z", "no such y"), ("same a , z", "no such z"), ("free q ; bind b = a ; room 2001", "no line"),
            ("free q ; bind b = & ; name", "no line"), (f"bind b = {great} ; bind c", "no line"),
        )


class Drawn(Desks):
    """Long drawn rows of lines, each held against the plain desk, and against a desk that was never asked."""

    FORMULAS = ["1", "0", "a", "b", "c", "f", "g", "a & b", "a ^ f", "f | !g", "a ? b : c", "some a f",
        "b := f in g & b", "!(a & c)", "z",
                "a &", "", "(a", "a|b  ^ c", "!!!!!!!!!!a", "f ^ g", "all b (a | b & c)", "some f g", "a & a & a",
                "some", "d & !d"]
    CHANCES = ["a 1/2", "a 1/3 b 2/3", "a 0/5", "a 5/5 c 1/999", "z 1/2", "a 2/1", "a 1/2 a 1/2", "", "a", "b 1/1000",
        "f 1/2"]

    def line(self, chance):
        formula = lambda: chance.choice(self.FORMULAS)
        one = lambda: chance.choice(["a", "b", "c", "d", "f", "g", "h"])
        deed = lambda: chance.choice([
            lambda: f"name {chance.choice('abcd')}", lambda: f"bind {chance.choice('fgh')} = {formula()}",
            lambda: f"free {chance.choice('fgh')}",
            lambda: f"bind {one()} = {formula()}", lambda: "order " + " ".join(chance.sample("abcd", chance.choice([2,
            3, 4]))),
            lambda: "sift", lambda: f"room {chance.choice([0, 2, 3, 5, 2000])}",
            lambda: f"bind {chance.choice('fgh')} = {formula()}",
        ])()
        return chance.choice([
            deed, deed, deed, deed, lambda: " ; ".join(deed() for _ in range(chance.choice([2, 2, 3, 9]))),
            lambda: "undo",
            lambda: "knots", lambda: "names", lambda: "bound", lambda: f"show {formula()}",
            lambda: f"same {formula()} , {formula()}",
            lambda: chance.choice(["same f , f", "same a , !!a", "same f , g", "same b , b & 1"]),
            lambda: f"count {formula()}", lambda: f"row {formula()}", lambda: f"share {formula()}",
            lambda: f"least {formula()}",
            lambda: f"share {formula()} , {chance.choice(self.CHANCES)}",
            lambda: chance.choice(["show", "share", "same , a", "share , a 1/2", "bind f =", "name b ; bind g ="]),
            lambda: chance.choice(["what", "order a a", "room 2001", "same a", "name a b", " sift", "show a ; sift",
            "sift ; undo"]),
        ])()

    def test_long_rows(self):
        chance = chances(131)
        kinds = {}
        for _ in range(90):
            desk, plain, never_asked = Desk(), PlainDesk(), Desk()
            asked_last = ["knots", "names", "bound", "show f", "show g", "show a", "count 1", "undo", "names", "bound"]
            begun = chance.choice([[], ["name a ; name b"], ["name c ; name a ; name b",
                "bind f = a & b ; bind g = c"]])
            for line in begun + [self.line(chance) for _ in range(40)] + asked_last:
                expected = plain.say(line)
                self.assertEqual(desk.say(line), expected, line)
                kind = expected.split(" ")[0]
                kinds[kind] = kinds.get(kind, 0) + 1
                if expected == "done":
                    self.assertEqual(never_asked.say(line), "done")
            self.assertEqual(desk.say("bound"), never_asked.say("bound"))
            self.assertEqual([desk.say("show f"), desk.say("names")],
                [never_asked.say("show f"), never_asked.say("names")])
        for kind in ("done", "nothing", "none", "order", "yes", "no", "great", "there", "hangs", "full", "empty", "0"):
            self.assertGreater(kinds.get(kind, 0), 5, kind)

    def test_signs_otherwise(self):
        chance = chances(132)
        lines = ["name a ; name b", "bind f = a & b ; free f", "order a b", "room 20", "same a , b", "share a , b 1/3",
            "show a | b", "undo"]
        for _ in range(300):
            desk, plain = Desk(), PlainDesk()
            desk.say("name a ; name b ; bind g = a")
            plain.say("name a ; name b ; bind g = a")
            for _ in range(8):
                line = chance.choice(lines)
                at = chance.randrange(len(line) + 1)
                line = chance.choice([line[:at] + chance.choice(" ab;,=01/&!") + line[at:], line[:at] + line[at + 1:]])
                self.assertEqual(desk.say(line), plain.say(line), repr(line))


if __name__ == "__main__":
    unittest.main()
