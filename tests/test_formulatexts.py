import re
import unittest

from knotweb.errors import BadFormula, BadQuestion, BadText
from knotweb.formulas import need_formula
from knotweb.formulatexts import formula_text, read_formula
from tests.plain import (
    LETTERS, OPENERS, WORDS, PlainReader, Tree, chances, deep, doubled, grown, name, nothings,
    plain_refusal, random_formula,
)

A, B, C, D, E = [name(text) for text in "abcde"]
SIGNS = " 01!&^|?:()=abinsomel\nA2@~_.{"

# Formulas and their texts, by the words of [6].
TEXTS = [
    (("yes",), "1"), (("no",), "0"), (A, "a"), (name("abcdefgh"), "abcdefgh"), (name("not"), "not"),
    (name("yes"), "yes"), (("not", A), "!a"), (("not", ("not", ("yes",))), "!!1"),
    (("and", A, B), "a & b"), (("xor", A, B), "a ^ b"), (("or", A, B), "a | b"),
    (("if", A, B, C), "a ? b : c"), (("some", "x", A), "some x a"), (("all", "x", A), "all x a"),
    (("put", "x", A, B), "x := a in b"),
    # Beneath "!".
    (("not", ("and", A, B)), "!(a & b)"), (("not", ("xor", A, B)), "!(a ^ b)"), (("not", ("or", A, B)), "!(a | b)"),
    (("not", ("if", A, B, C)), "!(a ? b : c)"), (("not", ("some", "x", A)), "!(some x a)"),
    (("not", ("all", "x", A)), "!(all x a)"), (("not", ("put", "x", A, B)), "!(x := a in b)"),
    (("and", ("not", A), ("not", B)), "!a & !b"), (("not", ("not", ("and", A, B))), "!!(a & b)"),
    # Joined from the left.
    (("and", ("and", A, B), C), "a & b & c"), (("and", A, ("and", B, C)), "a & (b & c)"),
    (("xor", ("xor", A, B), C), "a ^ b ^ c"), (("xor", A, ("xor", B, C)), "a ^ (b ^ c)"),
    (("or", ("or", A, B), C), "a | b | c"), (("or", A, ("or", B, C)), "a | (b | c)"),
    # "&" ahead of "^" ahead of "|".
    (("and", ("xor", A, B), C), "(a ^ b) & c"), (("and", A, ("xor", B, C)), "a & (b ^ c)"),
    (("and", ("or", A, B), C), "(a | b) & c"), (("and", A, ("or", B, C)), "a & (b | c)"),
    (("xor", ("and", A, B), C), "a & b ^ c"), (("xor", A, ("and", B, C)), "a ^ b & c"),
    (("xor", ("or", A, B), C), "(a | b) ^ c"), (("xor", A, ("or", B, C)), "a ^ (b | c)"),
    (("or", ("and", A, B), C), "a & b | c"), (("or", A, ("and", B, C)), "a | b & c"),
    (("or", ("xor", A, B), C), "a ^ b | c"), (("or", A, ("xor", B, C)), "a | b ^ c"),
    # What goes on as far as it can, beneath "&", "^", "|" on either side.
    (("and", ("if", A, B, C), D), "(a ? b : c) & d"), (("and", D, ("if", A, B, C)), "d & (a ? b : c)"),
    (("xor", ("some", "x", A), B), "(some x a) ^ b"), (("xor", A, ("some", "x", B)), "a ^ (some x b)"),
    (("or", ("all", "x", A), B), "(all x a) | b"), (("or", A, ("all", "x", B)), "a | (all x b)"),
    (("and", ("put", "x", A, B), C), "(x := a in b) & c"), (("or", A, ("put", "x", B, C)), "a | (x := b in c)"),
    # Ahead of "?", and behind it.
    (("if", ("or", A, B), ("or", B, C), ("or", C, A)), "a | b ? b | c : c | a"),
    (("if", ("if", A, B, C), D, E), "(a ? b : c) ? d : e"), (("if", A, ("if", B, C, D), E), "a ? b ? c : d : e"),
    (("if", A, B, ("if", C, D, E)), "a ? b : c ? d : e"), (("if", ("some", "x", A), B, C), "(some x a) ? b : c"),
    (("if", ("all", "x", A), B, C), "(all x a) ? b : c"), (("if", ("put", "x", A, B), C, D), "(x := a in b) ? c : d"),
    (("if", A, ("some", "x", B), ("all", "y", C)), "a ? some x b : all y c"),
    (("if", A, ("put", "x", B, C), ("put", "y", D, E)), "a ? x := b in c : y := d in e"),
    (("if", ("not", A), B, C), "!a ? b : c"),
    # Behind "some", "all", ":=", "in".
    (("some", "x", ("or", A, B)), "some x a | b"), (("some", "x", ("if", A, B, C)), "some x a ? b : c"),
    (("all", "x", ("some", "y", ("all", "z", A))), "all x some y all z a"),
    (("some", "x", ("put", "y", A, B)), "some x y := a in b"), (("some", "x", ("not", A)), "some x !a"),
    (("some", "x", ("and", ("or", A, B), C)), "some x (a | b) & c"),
    (("put", "x", ("if", A, B, C), ("if", C, D, E)), "x := a ? b : c in c ? d : e"),
    (("put", "x", ("put", "y", A, B), C), "x := y := a in b in c"),
    (("put", "x", A, ("put", "y", B, C)), "x := a in y := b in c"),
    (("put", "x", ("some", "y", A), ("all", "z", B)), "x := some y a in all z b"),
]

# Texts that are read otherwise than they are written, and what is read.
READ = [
    ("a&b", ("and", A, B)), ("  a  &  b  ", ("and", A, B)), ("(a)", A), ("((a))", A), ("( a )&(b)", ("and", A, B)),
    ("! a", ("not", A)), ("!(a)", ("not", A)), ("(!a)", ("not", A)), ("x:=a in b", ("put", "x", A, B)),
    ("x:=1in0", ("put", "x", ("yes",), ("no",))), ("a?b:c", ("if", A, B, C)), ("some x(a)", ("some", "x", A)),
    ("some x!a", ("some", "x", ("not", A))), ("all x 1", ("all", "x", ("yes",))), ("somex", name("somex")),
    ("inn", name("inn")), ("(a&b)&c", ("and", ("and", A, B), C)), ("a?(b?c:d):e", ("if", A, ("if", B, C, D), E)),
    ("a?b:(c?d:e)", ("if", A, B, ("if", C, D, E))), ("(a|b)?c:d", ("if", ("or", A, B), C, D)),
    ("x:=(a)in(b)", ("put", "x", A, B)), ("(x:=a in b)", ("put", "x", A, B)), ("some x (some y (a))",
     ("some", "x", ("some", "y", A))), ("all  x  0", ("all", "x", ("no",))),
]

# Texts that are none, and the number of the first word that can't stand.
REFUSED = [
    ("", 0), (" ", 0), ("    ", 0), ("a b", 1), ("ab01", 1), ("a1", 1), ("1a", 1), ("01", 1), ("abcdefghi", 0),
    ("a & abcdefghi", 2), ("some", 1), ("all", 1), ("in", 0), ("some x", 2), ("some some a", 1), ("all in a", 1),
    ("some all a", 1), ("some abcdefghi a", 1), ("some 1 a", 1), ("some (x) a", 1), ("some !a", 1), ("& a", 0), ("a &", 2),
    ("a & & b", 2), ("a & | b", 2), ("a !b", 1), ("!", 1), ("!&", 1), ("()", 1), ("(a", 2), ("a)", 1), ("(a))", 3), (")", 0),
    ("((a)", 4), ("a ?", 2), ("a ? b", 3), ("a ? b :", 4), ("a ? : b", 2), ("a : b", 1), ("a ? b : c : d", 5),
    ("(a ? b) : c", 4), ("a ? (b : c)", 4), ("a ? b ? c : d", 7), ("x :=", 2), ("x := a", 3), ("x := a in", 4),
    ("x := in a", 2), ("a in b", 1), ("x := a in b in c", 5), ("x = a in b", 1), ("x : = a", 1), ("1 := a in b", 1),
    ("(x) := a in b", 3), ("!x := a in b", 2), ("a & x := b in c", 3), ("a | x := b in c", 3), ("some x := a in b", 2),
    ("in := a in b", 0), ("some := a in b", 1), ("a ? b := c", 5), ("a ? b := c : d", 5), ("x := a ? b in c", 5),
    ("(x := a) in b", 4), ("x := (a in b)", 4), ("a & some x b", 2), ("!some x a", 1), ("a ^ all x b", 2), ("! all x a", 1),
    ("some x a & some y b", 4), ("a\n", 1), ("\na", 0), ("a & \n b", 2), ("A", 0), ("a & B", 2), ("aB", 1), ("a2", 1), ("2", 0),
    ("a = b", 1), ("a := b", 3), (":= a", 0), (": a", 0), ("a & b ~", 3), ("a_b", 1), ("a,b", 1), ("a\tb", 1), ("{a}", 0),
    ("a ? b:=c", 5), ("a:=b:c", 3), ("x := a :in b", 3), ("some x", 2), ("a ! = b", 1), ("a == b", 1), ("not a", 1),
    ("a and b", 1), ("(a & b", 4), ("a ?? b", 2), ("a || b", 2), ("a && b", 2), ("a :: b", 1), ("0 in 1", 1),
]


class Refusing(unittest.TestCase):
    def refused(self, kind, call, *handed):
        with self.assertRaises(kind) as caught:
            call(*handed)
        self.assertIs(type(caught.exception), kind)
        return caught.exception

    def told(self, text):
        """What the reader tells, as the plain one does."""
        try:
            return ("read", read_formula(text))
        except BadText as error:
            return ("text", error.place)
        except BadFormula as error:
            return ("formula", error.place)


class Writing(Refusing):
    def test_texts_of_the_document(self):
        for formula, text in TEXTS:
            with self.subTest(text):
                self.assertEqual(formula_text(formula), text)

    def test_names_without_a_text(self):
        for word in ("some", "all", "in"):
            for formula in (name(word), ("and", A, name(word)), ("some", word, A), ("all", word, A),
                            ("put", word, A, B), ("put", "a", name(word), B), ("not", ("some", "a", name(word)))):
                self.refused(BadQuestion, formula_text, formula)

    def test_no_formula_goes_ahead(self):
        self.assertEqual(self.refused(BadFormula, formula_text, ("and", name("in"), 5)).place, (1,))
        for kind, thing in nothings():
            with self.subTest(kind):
                self.assertEqual(self.refused(BadFormula, formula_text, thing).place, plain_refusal(thing))
        self.assertEqual(self.refused(BadFormula, formula_text, deep(("not",))).place, (0,) * 10)
        self.assertEqual(self.refused(BadFormula, formula_text, doubled(("and",))).place, (0,) * 10)

    def test_many_written_and_read_again(self):
        chance = chances(6)
        for _ in range(3000):
            formula = random_formula(chance, ["a", "b", "not", "abcdefgh", "x", "somea", "i"], chance.choice([2, 3, 4, 5]))
            text = formula_text(formula)
            self.assertEqual(read_formula(text), formula)
            words = WORDS.findall(text)
            self.assertEqual(Tree(words).formula(), formula)
            self.assertNotIn("  ", text)
            self.assertEqual(spaced(words), text)

    def test_no_bracket_can_go(self):
        chance = chances(7)
        reader = PlainReader()
        for _ in range(250):
            formula = random_formula(chance, "abx", 3)
            words = WORDS.findall(formula_text(formula))
            for first, last in pairs_of_brackets(words):
                fewer = words[:first] + words[first + 1:last] + words[last + 1:]
                told = reader.told(" ".join(fewer))
                self.assertNotEqual(told, ("read", formula))

    def test_read_again_with_other_blanks_and_more_brackets(self):
        chance = chances(8)
        for _ in range(600):
            formula = random_formula(chance, ["a", "b", "x", "abcdefgh"], 4)
            blanks = "".join(word + " " * chance.choice([1, 1, 2, 5]) for word in WORDS.findall(formula_text(formula)))
            self.assertEqual(read_formula(" " * chance.choice([0, 3]) + blanks), formula)
            tight = re.sub(r" ?([^a-z ]+) ?", r"\1", formula_text(formula))
            self.assertEqual(read_formula(tight), formula)
            if can_stand(bracketed(formula)):
                self.assertEqual(read_formula(bracketed(formula)), formula)

    def test_the_greatest_formulas_have_texts_that_are_read(self):
        part = ("some", "abcdefgh", ("not", ("put", "bcdefghi", A, ("or", A, ("if", A, B, C)))))
        for formula in (("and", ("and", part, part), ("and", part, part)),):
            need_formula(formula)
            self.assertEqual(read_formula(formula_text(formula)), formula)


def spaced(words):
    """Words with blanks where [6] has them."""
    text = ""
    for at, word in enumerate(words):
        behind_quantifier = at > 0 and words[at - 1] in ("some", "all")
        if word in ("&", "^", "|", "?", ":", ":=", "in"):
            text += f" {word} "
        else:
            text += word + (" " if word in ("some", "all") or behind_quantifier else "")
    return text


def pairs_of_brackets(words):
    """The places of all brackets that belong together."""
    begun, pairs = [], []
    for at, word in enumerate(words):
        if word == "(":
            begun.append(at)
        elif word == ")":
            pairs.append((begun.pop(), at))
    return pairs


def can_stand(text):
    """Whether a text has no more signs and opening words than it may have."""
    return len(text) <= 4000 and sum(word in OPENERS for word in WORDS.findall(text)) <= 120


def bracketed(formula):
    """A text with brackets round each part."""
    word, *behind = formula
    if word in ("yes", "no", "name"):
        return "(" + {"yes": "1", "no": "0"}.get(word, behind[-1] if behind else "") + ")"
    texts = [part if isinstance(part, str) else bracketed(part) for part in behind]
    if word == "not":
        return f"(!{texts[0]})"
    if word == "if":
        return f"({texts[0]}?{texts[1]}:{texts[2]})"
    if word == "put":
        return f"({texts[0]}:={texts[1]}in{texts[2]})"
    if word in ("some", "all"):
        return f"({word} {texts[0]}{texts[1]})"
    return f"({texts[0]}{dict(zip(['and', 'xor', 'or'], '&^|'))[word]}{texts[1]})"


class Reading(Refusing):
    def test_texts_of_the_document(self):
        for formula, text in TEXTS:
            with self.subTest(text):
                self.assertEqual(read_formula(text), formula)

    def test_other_texts_of_formulas(self):
        for text, formula in READ:
            with self.subTest(text):
                self.assertEqual(read_formula(text), formula)

    def test_names_of_any_letters(self):
        for sign in LETTERS:
            for word in (sign, sign + "a", "a" + sign, sign * 8):
                self.assertEqual(read_formula(word), name(word))
                self.assertEqual(read_formula(f"some {word} {word}"), ("some", word, name(word)))
                self.assertEqual(formula_text(name(word)), word)

    def test_the_number_of_the_first_word_that_cannot_stand(self):
        reader = PlainReader()
        for text, place in REFUSED:
            with self.subTest(text):
                self.assertEqual(self.refused(BadText, read_formula, text).place, place)
                self.assertEqual(reader.place(text), place)

    def test_no_text(self):
        for kind, thing in nothings() + [("empty tuple", ()), ("words", ["a"]), ("formula", A)]:
            with self.subTest(kind):
                self.assertEqual(self.refused(BadText, read_formula, thing).place, -1)

    def test_too_long_a_text(self):
        self.assertEqual(read_formula(" " * 3999 + "a"), A)
        self.assertEqual(read_formula("a" + " " * 3999), A)
        self.assertEqual(self.refused(BadText, read_formula, " " * 4000).place, 0)
        for text in (" " * 4000 + "a", "a" + " " * 4000, "a" * 4001, ")" * 4001, "A" * 4001):
            self.assertEqual(self.refused(BadText, read_formula, text).place, -1)
        self.assertEqual(self.refused(BadText, read_formula, "a" * 4000).place, 0)
        self.assertEqual(self.refused(BadText, read_formula, "a " * 2000).place, 1)

    def test_long_texts_at_the_bounds(self):
        for sign in "&^|":
            joined = sign.join("a" * 2000)
            self.assertEqual(self.refused(BadFormula, read_formula, joined).place, (0,) * 10)
            self.assertEqual(self.refused(BadText, read_formula, joined + sign).place, 4000)
            self.assertEqual(read_formula(sign.join("a" * 10))[2], A)
            self.assertEqual(self.refused(BadFormula, read_formula, sign.join("a" * 11)).place, (0,) * 10)
        self.assertEqual(self.refused(BadFormula, read_formula, " & ".join("a" * 1000)).place, (0,) * 10)
        self.assertEqual(self.refused(BadText, read_formula, " & ".join("a" * 1000) + " b").place, 1999)

    def test_a_hundred_and_twenty_opening_words_but_no_more(self):
        self.assertEqual(read_formula("(" * 120 + "a" + ")" * 120), A)
        self.assertEqual(self.refused(BadText, read_formula, "(" * 121 + "a" + ")" * 121).place, 120)
        self.assertEqual(self.refused(BadText, read_formula, "(" * 120 + "a" + ")" * 119).place, 240)
        self.assertEqual(self.refused(BadText, read_formula, "(" * 120 + "a" + ")" * 121).place, 241)
        for opener, place in [("!", (0,) * 10), ("some x ", (0,) * 10), ("all x ", (0,) * 10),
                              ("a ? b : ", (2,) * 9 + (0,)), ("x := 1 in ", (1,) * 9 + (0,))]:
            self.assertEqual(self.refused(BadFormula, read_formula, opener * 120 + "a").place, place)
            each = len(WORDS.findall(opener))
            last = 120 * each + (1 if each > 3 else 0)
            self.assertEqual(self.refused(BadText, read_formula, opener * 121 + "a").place, last)

    def test_opening_words_count_altogether(self):
        mixed = "(" * 40 + "!(" * 20 + "some x all y (z := a ? b : c in d)" + ")" * 60
        self.assertEqual(read_formula("(" * 100 + "a" + ")" * 100 + " & " + "(" * 20 + "a" + ")" * 20), ("and", A, A))
        refused = self.refused(BadText, read_formula, "(" * 100 + "a" + ")" * 100 + " & " + "(" * 21 + "a" + ")" * 21)
        self.assertEqual(refused.place, 201 + 1 + 20)
        reader = PlainReader()
        for many in (0, 14, 15, 16, 17, 18, 19, 20, 21, 22, 30):
            text = "!" * many + "(" + mixed + ")"
            self.assertEqual(self.told(text), reader.told(text))

    def test_formulas_that_are_none_are_refused_behind(self):
        eleven = "a|b|c|d|e|f|g|(h|i|j|k)"
        self.assertEqual(self.refused(BadFormula, read_formula, eleven).place, (1, 1))
        self.assertEqual(self.refused(BadText, read_formula, eleven + "|").place, len(WORDS.findall(eleven)) + 1)
        pairs = "(a&b)"
        for _ in range(4):
            pairs = f"({pairs}&{pairs})"
        self.assertEqual(self.told(f"{pairs}&a"), PlainReader().told(f"{pairs}&a"))
        self.assertEqual(self.refused(BadFormula, read_formula, f"{pairs}&a").place[:1], (0,))
        self.assertEqual(self.refused(BadText, read_formula, f"{pairs}&a)").place, len(WORDS.findall(pairs)) + 2)

    def test_every_text_with_one_sign_more_less_or_otherwise(self):
        for text in (
            "a & b", "!a ^ (b | c)", "a ? b : 0", "x := a in b", "some x a", "(all in & 1)", "x:=y:=1in0in a",
            "(some a b)?x:=1in(0):c", "a|b^!(c&1)", "all x a?b:c", "abcdefgh", "!!(a)", "((a))&b", "a?b?c:d:e",
            "some b := a", "a & in := b",
        ):
            reader = PlainReader()
            for other in one_sign_apart(text):
                self.assertEqual(self.told(other), reader.told(other), other)

    def test_random_words_against_the_plain_reader(self):
        chance = chances(9)
        words = ["0", "1", "!", "&", "^", "|", "?", ":", ":=", "(", ")", "some", "all", "in", "a", "b", "x", "A", "="]
        for _ in range(60):
            reader = PlainReader()
            for _ in range(50):
                text = " ".join(self.likely(chance, reader, words))
                self.assertEqual(self.told(text), reader.told(text), text)

    def likely(self, chance, reader, words):
        """Words that mostly can stand one behind the other."""
        chosen = []
        while len(chosen) < 25 and chance.random() < 0.96:
            word = chance.choice(words)
            if reader.after((*chosen, word)) is not None or chance.random() < 0.02:
                chosen.append(word)
            if reader.after(tuple(chosen)) is None:
                break
        return chosen

    def test_what_is_too_great_deep_or_of_too_many_names_is_refused_by_its_way(self):
        chance = chances(10)
        seen = set()
        for _ in range(1500):
            formula = grown(chance, LETTERS[:chance.choice([3, 12, 14])], chance.choice([3, 5]))
            for _ in range(chance.choice([0, 0, 5])):
                formula = ("not", formula)
            text = bracketed(formula)
            if can_stand(text):
                way = plain_refusal(formula)
                seen.add(way is None)
                self.assertEqual(self.told(text), ("read", formula) if way is None else ("formula", way))
        self.assertEqual(seen, {True, False})


def one_sign_apart(text):
    for at in range(len(text) + 1):
        yield text[:at] + text[at + 1:]
        for sign in SIGNS:
            yield text[:at] + sign + text[at:]
            yield text[:at] + sign + text[at + 1:]


if __name__ == "__main__":
    unittest.main()
