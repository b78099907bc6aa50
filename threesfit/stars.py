"""Star tables, and the rules that they are."""

from itertools import product

from threesfit.basics import inverse, is_kinds, is_square
from threesfit.errors import BadStars
from threesfit.rules import left_turns, require_rule


def is_grid(thing):
    """Whether any value is a grid."""
    return is_square(thing) and all([is_kinds(line, len(thing)) for line in thing])


def is_stars(thing):
    """Whether any value is a star table."""
    return is_grid(thing) and _first_fault(thing) is None


def _require_grid(grid):
    if not is_grid(grid):
        raise BadStars(grid)


def _require_stars(stars):
    if not is_stars(stars):
        raise BadStars(stars)


def _breaks(grid, name, x, y, z):
    """Whether (name, x, y, z) is a fault, name being any value and the rest kinds."""
    if name == "row":
        return y < z and grid[x][y] == grid[x][z]
    return name == "three" and grid[grid[x][y]][grid[x][z]] != grid[grid[y][x]][grid[y][z]]


def _first_fault(grid):
    """A fault of a grid, None if it has none."""
    n = len(grid)
    for name in ("row", "three"):
        for x, y, z in product(range(n), range(n), range(n)):
            if _breaks(grid, name, x, y, z):
                return (name, x, y, z)
    return None


def judge_stars(grid):
    """A certificate: ("stars",), or a fault."""
    _require_grid(grid)
    fault = _first_fault(grid)
    return ("stars",) if fault is None else fault


def stars_hold(grid, thing):
    """Whether any value is a certificate for a grid."""
    _require_grid(grid)
    if thing == ("stars",):
        return _first_fault(grid) is None
    if not isinstance(thing, tuple) or len(thing) != 4 or not is_kinds(thing[1:], len(grid)):
        return False
    return _breaks(grid, thing[0], thing[1], thing[2], thing[3])


def stars_of(rule):
    """The star table of a rule."""
    require_rule(rule)
    return tuple([inverse(turn) for turn in left_turns(rule)])


def _rule_line(stars, x):
    """The line of x in the rule of a star table."""
    return tuple([(u, stars[u][x]) for u in inverse(stars[x])])


def rule_of(stars):
    """The rule of a star table."""
    _require_stars(stars)
    return tuple([_rule_line(stars, x) for x in range(len(stars))])


def squares(stars):
    """The tuple of the squares of a star table."""
    _require_stars(stars)
    return tuple([stars[x][x] for x in range(len(stars))])
