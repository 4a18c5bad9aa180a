"""Plain doubles of what the document says, slow and by its words, and things to be refused."""

import random
import re
from itertools import combinations

SHAPES = {
    "yes": "", "no": "", "name": "n", "not": "f", "and": "ff", "or": "ff", "xor": "ff",
    "if": "fff", "some": "nf", "all": "nf", "put": "nff",
}
LETTERS = "abcdefghijklmnopqrstuvwxyz"


# Formulas.

def name(text):
    return ("name", text)


def all_rows(names):
    """The ROWS of names, in their order."""
    names = sorted(names)
    rows = [row for many in range(len(names) + 1) for row in combinations(names, many)]
    return sorted(rows, key=lambda row: (len(row), row))


def with_name(row, which):
    return frozenset(row) | {which}


def without(row, which):
    return frozenset(row) - {which}


def plain_yes(formula, row):
    """Whether a formula is yes at a row, by the words of [3]."""
    word, *behind = formula
    if word in ("yes", "no"):
        return word == "yes"
    if word == "name":
        return behind[0] in row
    if word in ("some", "all"):
        which, part = behind
        both = [plain_yes(part, with_name(row, which)), plain_yes(part, without(row, which))]
        return any(both) if word == "some" else all(both)
    if word == "put":
        which, first, second = behind
        moved = with_name(row, which) if plain_yes(first, row) else without(row, which)
        return plain_yes(second, moved)
    truths = [plain_yes(part, row) for part in behind]
    if word == "not":
        return not truths[0]
    if word == "and":
        return truths[0] and truths[1]
    if word == "or":
        return truths[0] or truths[1]
    if word == "xor":
        return truths[0] != truths[1]
    return truths[1] if truths[0] else truths[2]


def plain_names(formula):
    """The names of a formula as they are met."""
    found = []
    for place, kind in enumerate(SHAPES[formula[0]], start=1):
        inner = [formula[place]] if kind == "n" else plain_names(formula[place])
        found.extend(one for one in inner if one not in found)
    return found


def is_plain_name(thing):
    return type(thing) is str and re.fullmatch("[a-z]{1,8}", thing) is not None


def own_form(part):
    """Whether a part is a FORMULA by its own form."""
    if type(part) is not tuple or not part or type(part[0]) is not str or part[0] not in SHAPES:
        return False
    kinds = SHAPES[part[0]]
    if len(part) != len(kinds) + 1:
        return False
    return all(is_plain_name(part[at + 1]) for at, kind in enumerate(kinds) if kind == "n")


def met(thing, way=()):
    """All (way, part) as they are met, no further beneath what is none or too deep."""
    yield way, thing
    if len(way) > 9 or not own_form(thing):
        return
    at = 0
    for place, kind in enumerate(SHAPES[thing[0]], start=1):
        if kind == "f":
            yield from met(thing[place], (*way, at))
            at += 1


def plain_refusal(thing):
    """The way by which [4] refuses a thing, None for a FORMULA."""
    names = set()
    for count, (way, part) in enumerate(met(thing), start=1):
        if count > 60 or len(way) > 9 or not own_form(part):
            return way
        if "n" in SHAPES[part[0]]:
            names.add(part[1])
        if len(names) > 10:
            return way
    return None


def count_parts(formula):
    return sum(1 for _ in met(formula))


def random_formula(chance, names, depth, moved=None):
    """Some formula of names, within the bounds of [4] if depth is below 10; moved stand behind some, all, put."""
    while True:
        formula = grown(chance, names, depth, moved)
        if count_parts(formula) <= 60:
            return formula


def grown(chance, names, depth, moved=None):
    moved = names if moved is None else moved
    if depth == 0 or chance.random() < 0.1:
        leaf = chance.choice(["yes", "no"] + ["name"] * 10)
        return ("name", chance.choice(names)) if leaf == "name" else (leaf,)
    word = chance.choice([word for word in SHAPES if "f" in SHAPES[word] and (moved or "n" not in SHAPES[word])])
    return (word, *[
        chance.choice(moved) if kind == "n" else grown(chance, names, depth - 1, moved)
        for kind in SHAPES[word]
    ])


def chances(seed):
    return random.Random(seed)


# Texts.

WORDS = re.compile(r"[a-z]+|:=|[01!&^|?:()]|[^ ]")
OPENERS = ("(", "!", "?", "some", "all", ":=")

# The grammar of [6]: S a formula, C one that may stand ahead of "?".
GRAMMAR = {
    "S": [("C",), ("C", "?", "S", ":", "S"), ("some", "N", "S"), ("all", "N", "S"),
          ("N", ":=", "S", "in", "S")],
    "C": [("X",), ("C", "|", "X")],
    "X": [("A",), ("X", "^", "A")],
    "A": [("U",), ("A", "&", "U")],
    "U": [("P",), ("!", "U")],
    "P": [("0",), ("1",), ("N",), ("(", "S", ")")],
}


def stands_for(word, sign):
    """Whether a word of a text is what stands in the grammar."""
    if sign == "N":
        return is_plain_name(word) and word not in ("some", "all", "in")
    return word == sign


class Ways:
    """All ways of the grammar in which some words can be gone on with, word by word (Earley's)."""

    def __init__(self, sets):
        self.sets = sets

    @staticmethod
    def begun():
        return Ways([closed([], {("S", body, 0, 0) for body in GRAMMAR["S"]})])

    def behind(self, word):
        items = {
            (head, body, dot + 1, start)
            for head, body, dot, start in self.sets[-1]
            if dot < len(body) and body[dot] not in GRAMMAR and stands_for(word, body[dot])
        }
        return Ways(self.sets + [closed(self.sets, items)]) if items else None

    def whole(self):
        return any(
            head == "S" and dot == len(body) and start == 0
            for head, body, dot, start in self.sets[-1]
        )


def closed(sets, items):
    """Items, with all that they begin and end."""
    here = len(sets)
    found, waiting = set(items), list(items)
    while waiting:
        head, body, dot, start = waiting.pop()
        if dot < len(body):
            more = [(body[dot], other, 0, here) for other in GRAMMAR.get(body[dot], ())]
        else:
            # No body is empty, so what ends here began in an earlier set.
            more = [
                (over, its, at + 1, since)
                for over, its, at, since in sets[start]
                if at < len(its) and its[at] == head
            ]
        for item in more:
            if item not in found:
                found.add(item)
                waiting.append(item)
    return found


class PlainReader:
    """Tells what read_formula should; keeps the ways of beginnings, as texts here are much alike."""

    def __init__(self):
        self.ways = {(): Ways.begun()}

    def after(self, words):
        if words not in self.ways:
            ahead = self.after(words[:-1])
            self.ways[words] = ahead and ahead.behind(words[-1])
        return self.ways[words]

    def place(self, text):
        """The place by which a text is refused, None without."""
        if len(text) > 4000:
            return -1
        words = tuple(WORDS.findall(text))
        opened = 0
        for at, word in enumerate(words):
            opened += word in OPENERS
            if opened > 120 or self.after(words[:at + 1]) is None:
                return at
        return None if self.after(words).whole() else len(words)

    def told(self, text):
        """("text", place), ("formula", way) or ("read", formula)."""
        place = self.place(text)
        if place is not None:
            return ("text", place)
        formula = Tree(WORDS.findall(text)).formula()
        way = plain_refusal(formula)
        return ("read", formula) if way is None else ("formula", way)


class Tree:
    """The formula of words that are the text of one, by calls within calls."""

    def __init__(self, words):
        self.words = [*words, ""]
        self.at = 0

    def word(self):
        self.at += 1
        return self.words[self.at - 1]

    def sees(self, word):
        return self.words[self.at] == word

    def formula(self):
        if self.sees("some") or self.sees("all"):
            return (self.word(), self.word(), self.formula())
        if self.words[self.at + 1:self.at + 2] == [":="]:
            which, _ = self.word(), self.word()
            put = self.formula()
            self.word()
            return ("put", which, put, self.formula())
        head = self.side(["|", "^", "&"])
        if not self.sees("?"):
            return head
        self.word()
        high = self.formula()
        self.word()
        return ("if", head, high, self.formula())

    def side(self, signs):
        if not signs:
            return self.operand()
        told = self.side(signs[1:])
        while self.sees(signs[0]):
            self.word()
            told = ({"|": "or", "^": "xor", "&": "and"}[signs[0]], told, self.side(signs[1:]))
        return told

    def operand(self):
        word = self.word()
        if word == "!":
            return ("not", self.operand())
        if word == "(":
            told = self.formula()
            self.word()
            return told
        return {"0": ("no",), "1": ("yes",)}.get(word, ("name", word))


# Things to be refused.

def deep(word, depth=3000):
    """A tuple so deep in itself."""
    thing = ("yes",)
    for _ in range(depth):
        thing = (*word, thing)
    return thing


def doubled(word, times=60):
    """A tuple in which each part stands twice, so many times over."""
    thing = ("name", "a")
    for _ in range(times):
        thing = (*word, thing, thing)
    return thing


def nothings():
    """(what it is, a thing) that is no FORMULA, ORDER, ROW, NAME, word or text, of any kind."""
    return [
        ("none", None), ("truth", True), ("other truth", False), ("number", 0), ("below", -7),
        ("great number", 10 ** 3999), ("bytes", b"a"), ("list", []), ("list of names", ["a", "b"]),
        ("list formula", ["yes"]), ("dict", {}), ("dict of names", {"a": 1}), ("set", {"a"}),
        ("word as list", (["not"], ("yes",))), ("word as dict", ({}, ("yes",))),
        ("word as truth", (True,)), ("tuple of tuple", ((),)), ("list in tuple", ([],)),
        ("name as dict", ("name", {})), ("name as tuple", ("name", ("a",))),
        ("name as number", ("name", 1)), ("tuple of none", (None,)), ("numbers", (1, 2)),
        ("deep", deep(())), ("deep name", ("name", deep(()))), ("deep twos", deep((("a",),))),
        ("doubled", doubled(())), ("doubled word", (doubled(()), ("yes",))),
        ("deep word", (deep(()), ("yes",))), ("function", len), ("class", tuple),
    ]
