"""FORMULAS as texts: written with as few brackets as can be, and read."""

from knotweb.errors import BadQuestion, BadText
from knotweb.formulas import is_name, names_in, need_formula

MOST_SIGNS = 4000
MOST_OPENERS = 120

# Words that are no NAMES in texts, and those of which only so many can stand.
KEPT_WORDS = ("some", "all", "in")
OPENERS = ("(", "!", "?", "some", "all", ":=")

# How fast a FORMULA of each word binds: those of 0 go on as far as they can, all others have 4.
LEVELS = {"if": 0, "some": 0, "all": 0, "put": 0, "or": 1, "xor": 2, "and": 3}
SIGNS = {"and": "&", "xor": "^", "or": "|"}

# The word of the FORMULA that each sign joins, and the words ahead of it that are then at an end.
JOINS = {"&": "and", "^": "xor", "|": "or", "?": "if"}
ENDED_BY = {"&": ("and",), "^": ("and", "xor"), "|": ("and", "xor", "or"), "?": ("and", "xor", "or")}

# What begins with the right word of a pair is gone on with by the left one.
MATES = {")": "(", ":": "if", "in": "put"}

# How long a FORMULA of each word is that can be at its end only when all of it is read.
SIZES = {"and": 3, "xor": 3, "or": 3, "if": 4, "some": 3, "all": 3, "put": 4}


def level_of(formula):
    """How fast a FORMULA binds."""
    return LEVELS.get(formula[0], 4)


def part_text(formula, least):
    """The text of a part, in brackets if it binds less than least."""
    text = bare_text(formula)
    return f"({text})" if level_of(formula) < least else text


def bare_text(formula):
    """The text of a FORMULA without brackets round it."""
    word = formula[0]
    level = level_of(formula)
    if word == "yes":
        return "1"
    if word == "no":
        return "0"
    if word == "name":
        return formula[1]
    if word == "not":
        return f"!{part_text(formula[1], level)}"
    if word == "if":
        head = part_text(formula[1], level + 1)
        return f"{head} ? {bare_text(formula[2])} : {bare_text(formula[3])}"
    if word == "put":
        return f"{formula[1]} := {bare_text(formula[2])} in {bare_text(formula[3])}"
    if word in ("some", "all"):
        return f"{word} {formula[1]} {bare_text(formula[2])}"
    # Joined from the left: of the same word only the left side goes without brackets.
    return f"{part_text(formula[1], level)} {SIGNS[word]} {part_text(formula[2], level + 1)}"


def formula_text(formula):
    """The text of a FORMULA."""
    for name in names_in(formula):
        if name in KEPT_WORDS:
            raise BadQuestion("a formula with this name has no text")
    return bare_text(formula)


def is_letter(sign):
    """Whether a sign is one of a run of letters."""
    return "a" <= sign <= "z"


def word_end(text, start):
    """Where the word ends that begins at start; a sign in no word is taken for one."""
    if text.startswith(":=", start):
        return start + 2
    end = start + 1
    if is_letter(text[start]):
        while end < len(text) and is_letter(text[end]):
            end += 1
    return end


def words_of(text):
    """The words of a text, a list."""
    words = []
    at = 0
    while at < len(text):
        end = word_end(text, at)
        if text[at] != " ":
            words.append(text[at:end])
        at = end
    return words


def is_text_name(word):
    """Whether a word of a text is a NAME."""
    return is_name(word) and word not in KEPT_WORDS


class Reading:
    """A FORMULA that is read word by word, without calls within calls.

    What is begun and not ended is kept as tuples that lack their last parts:
    ("and", F), ("if", F), ("if", F, G), ("some", NAME), ("put", NAME), ("(",).
    Due is "formula" (any), "operand" (none that goes on as far as it can, as a sign
    stands ahead of it), "name", "sign" (what joins or ends), or "put" (likewise, or ":=").
    """

    def __init__(self):
        self.begun = []
        self.due = "formula"
        self.last = None
        self.openers = 0

    def take(self, word):
        """Goes on by a word; False if it can't stand here."""
        if word in OPENERS:
            self.openers += 1
            if self.openers > MOST_OPENERS:
                return False
        if self.due == "name":
            return self.take_name(word)
        if self.due in ("formula", "operand"):
            return self.take_first(word)
        if word in JOINS:
            return self.take_join(word)
        if word in MATES:
            return self.take_mate(word)
        return self.take_put(word)

    def take_name(self, word):
        """The NAME behind "some" or "all"."""
        if not is_text_name(word):
            return False
        quantifier = self.begun.pop()
        self.begin((*quantifier, word), "formula")
        return True

    def take_first(self, word):
        """The first word of a FORMULA."""
        if word == "(":
            self.begin(("(",), "formula")
        elif word == "!":
            self.begin(("not",), "operand")
        elif word in ("some", "all") and self.due == "formula":
            self.begin((word,), "name")
        elif word == "1":
            self.end(("yes",), "sign")
        elif word == "0":
            self.end(("no",), "sign")
        elif is_text_name(word):
            self.end(("name", word), "put" if self.due == "formula" else "sign")
        else:
            return False
        return True

    def take_join(self, word):
        """A sign behind a FORMULA's first part."""
        self.end_those(ENDED_BY[word])
        self.begin((JOINS[word], self.last), "operand" if word != "?" else "formula")
        return True

    def take_mate(self, word):
        """A word that ends all ahead of it up to what it belongs to."""
        self.end_all()
        if not self.begun or self.begun[-1][0] != MATES[word]:
            return False
        whole = self.begun.pop()
        if word == ")":
            self.end(self.last, "sign")
        else:
            self.begin((*whole, self.last), "formula")
        return True

    def take_put(self, word):
        """The ":=" behind a NAME, the one word left that can stand behind a FORMULA."""
        if word != ":=" or self.due != "put":
            return False
        self.begin(("put", self.last[1]), "formula")
        return True

    def begin(self, begun, due):
        """Something is begun; due is what comes behind it."""
        self.begun.append(begun)
        self.due = due

    def end(self, formula, due):
        """A FORMULA is at its end; any "!" right ahead of it is so at once."""
        self.last = formula
        self.due = due
        self.end_those(("not",))

    def end_those(self, words):
        """Ends what is begun by one of these words, the innermost first."""
        while self.begun and self.begun[-1][0] in words:
            self.end_innermost()

    def end_all(self):
        """Ends all that only lacks the FORMULA read last, the innermost first."""
        while self.begun and len(self.begun[-1]) + 1 == SIZES.get(self.begun[-1][0]):
            self.end_innermost()

    def end_innermost(self):
        """Puts the FORMULA read last where what is begun lacks its last part."""
        begun = self.begun.pop()
        self.last = (*begun, self.last)

    def ended(self):
        """The FORMULA, if the words may end here, else None."""
        if self.due not in ("sign", "put"):
            return None
        self.end_all()
        return None if self.begun else self.last


def read_formula(text):
    """The FORMULA that a text tells."""
    if not isinstance(text, str) or len(text) > MOST_SIGNS:
        raise BadText(-1)
    words = words_of(text)
    reading = Reading()
    for at, word in enumerate(words):
        if not reading.take(word):
            raise BadText(at)
    formula = reading.ended()
    if formula is None:
        raise BadText(len(words))
    return need_formula(formula)
