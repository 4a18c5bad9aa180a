"""FORMULAS by just the NAMES on which they HANG."""

from knotweb.errors import BadQuestion
from knotweb.formulas import hangs_on
from knotweb.tables import function_by


def function_on(formula, most):
    """The NAMES on which a FORMULA HANGS, rising, and its truths by these; refused if there are more than most."""
    names = hangs_on(formula)
    if len(names) > most:
        raise BadQuestion("a formula that hangs on too many names")
    _, truths = function_by(formula, names)
    return names, truths
