"""PRIMES and COVERS of FORMULAS, and PAPERS that a COVER has no CUBE too many."""

from knotweb.cubes import Cubes, alone
from knotweb.errors import BadPaper
from knotweb.hanging import function_on
from knotweb.kinds import is_row_of

MOST_COVER_NAMES = 6


def cubes_of(formula):
    """The CUBES of a FORMULA that HANGS on few enough NAMES."""
    names, truths = function_on(formula, MOST_COVER_NAMES)
    return Cubes(names, truths)


def primes_of(formula):
    """The PRIMES of a FORMULA."""
    return tuple(cubes_of(formula).primes())


def cover_of(formula):
    """The COVER of a FORMULA."""
    return tuple(cubes_of(formula).cover())


def cover_paper(formula):
    """The PAPER of a FORMULA's COVER: of each CUBE the first ROW that it alone of them COVERS."""
    cubes = cubes_of(formula)
    own = alone(cubes.all_covered(cubes.cover()))
    return tuple([cubes.at.first_at(bits) for bits in own])


def is_cube(names, thing):
    """Whether a thing of any kind is a pair of ROWS of NAMES."""
    if not isinstance(thing, tuple) or len(thing) != 2:
        return False
    return is_row_of(names, thing[0]) and is_row_of(names, thing[1])


def need_cubes(cubes, cover):
    """Refuses what isn't a tuple of PRIMES that COVER all ROWS at which the function is yes."""
    if not isinstance(cover, tuple):
        raise BadPaper(("cover",))
    primes = {cube: True for cube in cubes.primes()}
    lacking = cubes.truths
    for number, cube in enumerate(cover):
        if not is_cube(cubes.names, cube) or cube not in primes:
            raise BadPaper(("cube", number))
        bits = cubes.covered_by(cube)
        lacking ^= lacking & bits
    if lacking:
        raise BadPaper(("lacks", cubes.at.first_at(lacking)))


def need_rows(cubes, cover, rows):
    """Refuses what isn't a tuple of ROWS, of each CUBE one that it alone of them COVERS."""
    if not isinstance(rows, tuple) or len(rows) != len(cover):
        raise BadPaper(("rows",))
    own = alone(cubes.all_covered(cover))
    for number, row in enumerate(rows):
        if not is_row_of(cubes.names, row) or not own[number] >> cubes.at.row_number(row) & 1:
            raise BadPaper(("row", number))


def need_cover(formula, cover, rows):
    """The cover itself, if it is one of a FORMULA by PRIMES alone, and rows are a PAPER of it."""
    cubes = cubes_of(formula)
    need_cubes(cubes, cover)
    need_rows(cubes, cover, rows)
    return cover
