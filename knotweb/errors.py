"""The errors by which things are refused: each stands straight beneath one of Python's own."""


class BadFormula(ValueError):
    """What was handed in is no FORMULA; place is the WAY to the part."""

    def __init__(self, place):
        ValueError.__init__(self, f"no formula: {place}")
        self.place = place


class BadText(ValueError):
    """What was handed in is no text of that kind; place is the number of a word or row."""

    def __init__(self, place):
        ValueError.__init__(self, f"no such text: {place}")
        self.place = place


class BadOrder(ValueError):
    """What was handed in is no ORDER; place tells where."""

    def __init__(self, place):
        ValueError.__init__(self, f"no order: {place}")
        self.place = place


class BadTable(ValueError):
    """What was handed in is no TABLE; place tells where."""

    def __init__(self, place):
        ValueError.__init__(self, f"no table: {place}")
        self.place = place


class BadPaper(ValueError):
    """What was handed in is no paper of what it should show; place tells where."""

    def __init__(self, place):
        ValueError.__init__(self, f"no such paper: {place}")
        self.place = place


class BadQuestion(ValueError):
    """What was asked can't be answered; made of a text that tells why."""


class BadFamily(ValueError):
    """What was handed in is no FAMILY; place tells where."""

    def __init__(self, place):
        ValueError.__init__(self, f"no family: {place}")
        self.place = place


class BadSheet(ValueError):
    """What was handed in is no SHEET; place tells where."""

    def __init__(self, place):
        ValueError.__init__(self, f"no sheet: {place}")
        self.place = place


class BadMeasure(ValueError):
    """What was handed in is no MEASURE; place is the WAY to the part."""

    def __init__(self, place):
        ValueError.__init__(self, f"no measure: {place}")
        self.place = place


class BadMachine(ValueError):
    """What was handed in is no MACHINE; place tells where."""

    def __init__(self, place):
        ValueError.__init__(self, f"no machine: {place}")
        self.place = place


class BadSaying(ValueError):
    """What was handed in is no SAYING; place is the WAY to the part."""

    def __init__(self, place):
        ValueError.__init__(self, f"no saying: {place}")
        self.place = place


class BadDeed(ValueError):
    """What was handed in is no deed; place tells where."""

    def __init__(self, place):
        ValueError.__init__(self, f"no deed: {place}")
        self.place = place


class NoSuch(KeyError):
    """A NAME or HANDLE isn't there; name is what was handed in."""

    def __init__(self, name):
        # What was handed in may be of any size and depth, so the message doesn't show it.
        KeyError.__init__(self, "no such name or handle")
        self.name = name


class TooGreat(OverflowError):
    """There would be more KNOTS than ROOM; knots is how many there would be."""

    def __init__(self, knots):
        OverflowError.__init__(self, f"there would be {knots} knots")
        self.knots = knots


class HangsOn(RuntimeError):
    """A NAME can't go, as something HANGS ON it; name is that NAME."""

    def __init__(self, name):
        RuntimeError.__init__(self, f"something hangs on {name}")
        self.name = name
