"""Tables of meeting, and the rules among them."""

from itertools import product

from threesfit.basics import MOST_KINDS, is_below, is_kinds, is_square
from threesfit.errors import BadKind, BadPlace, BadRow, BadRule, BadTable, BadText

DIGITS = "01234567"


def is_table(thing):
    """Whether any value is a table."""
    if not is_square(thing):
        return False
    n = len(thing)
    return all([is_kinds(pair, n) and len(pair) == 2 for line in thing for pair in line])


def is_rule(thing):
    """Whether any value is a rule."""
    return is_table(thing) and _first_fault(thing) is None


def require_table(table):
    """Raise BadTable unless the value is a table."""
    if not is_table(table):
        raise BadTable(table)


def require_rule(rule):
    """Raise BadRule unless the value is a rule."""
    if not is_rule(rule):
        raise BadRule(rule)


def _require_kind(table, kind):
    if not is_below(kind, len(table)):
        raise BadKind(kind)


def meeting(table, x, y):
    """The pair to which x y meets."""
    require_table(table)
    _require_kind(table, x)
    _require_kind(table, y)
    return table[x][y]


def left_turn(table, x):
    """The tuple that has at y the first part of what x y meets to."""
    require_table(table)
    _require_kind(table, x)
    return tuple([pair[0] for pair in table[x]])


def right_turn(table, y):
    """The tuple that has at x the second part of what x y meets to."""
    require_table(table)
    _require_kind(table, y)
    return tuple([line[y][1] for line in table])


def left_turns(table):
    """The list of the left turns of all kinds of what is known to be a table."""
    return [tuple([pair[0] for pair in line]) for line in table]


def met(table, row, place):
    """The row in which the items at the place and behind it have met."""
    require_table(table)
    if not is_kinds(row, len(table)):
        raise BadRow(row)
    if not is_below(place, len(row) - 1):
        raise BadPlace(place)
    return row[:place] + table[row[place]][row[place + 1]] + row[place + 2:]


def _breaks_twice(table, x, y):
    u, v = table[x][y]
    return table[u][v] != (x, y)


def _breaks_three(table, x, y, z):
    a, b = table[x][y]
    b, c = table[b][z]
    a, b = table[a][b]
    e, f = table[y][z]
    d, e = table[x][e]
    e, f = table[e][f]
    return (a, b, c) != (d, e, f)


def _breaks(table, name, a, b, c):
    """Whether (name, a, b, c) is a fault, name being any value and the rest kinds."""
    if name == "left":
        return b < c and table[a][b][0] == table[a][c][0]
    if name == "right":
        return b < c and table[b][a][1] == table[c][a][1]
    return name == "three" and _breaks_three(table, a, b, c)


def _first_fault(table):
    """A fault of a table, None if it has none."""
    n = len(table)
    for x, y in product(range(n), range(n)):
        if _breaks_twice(table, x, y):
            return ("twice", x, y)
    for name in ("left", "right", "three"):
        for a, b, c in product(range(n), range(n), range(n)):
            if _breaks(table, name, a, b, c):
                return (name, a, b, c)
    return None


def _is_fault(table, thing):
    """Whether any value is a fault of a table."""
    if not isinstance(thing, tuple) or not is_kinds(thing[1:], len(table)):
        return False
    if len(thing) == 3:
        return thing[0] == "twice" and _breaks_twice(table, thing[1], thing[2])
    return len(thing) == 4 and _breaks(table, thing[0], thing[1], thing[2], thing[3])


def judge_rule(table):
    """A certificate: ("rule",), or a fault."""
    require_table(table)
    fault = _first_fault(table)
    return ("rule",) if fault is None else fault


def rule_holds(table, thing):
    """Whether any value is a certificate for a table."""
    require_table(table)
    if thing == ("rule",):
        return _first_fault(table) is None
    return _is_fault(table, thing)


def mirror(table):
    """The table that tells what becomes of rows that are read backwards."""
    require_table(table)
    n = len(table)
    return tuple([tuple([table[b][a][::-1] for b in range(n)]) for a in range(n)])


def table_text(table):
    """The text of a table."""
    require_table(table)
    return "\n".join([" ".join([f"{u}{v}" for u, v in line]) for line in table])


def _is_word(word, n):
    """Whether a string consists of two digits, each of them a kind of the size n."""
    digits = DIGITS[:n]
    return len(word) == 2 and word[0] in digits and word[1] in digits


def _is_line(words, n):
    """Whether strings are the words of a line of a text of a table of the size n."""
    return len(words) == n and n <= MOST_KINDS and all([_is_word(word, n) for word in words])


def read_table(text):
    """The table with a text."""
    if not isinstance(text, str):
        raise BadText(0)
    lines = [line.split(" ") for line in text.split("\n")]
    n = len(lines[0])
    for at, words in enumerate(lines, start=1):
        if at > n or not _is_line(words, n):
            raise BadText(at)
    if len(lines) < n:
        raise BadText(len(lines) + 1)
    return tuple([tuple([(int(word[0]), int(word[1])) for word in words]) for words in lines])
