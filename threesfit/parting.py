"""Lots, parted rules, restricted rules, and rules that are put together from two."""

from threesfit.basics import identity, inverse, is_kinds, is_permutation
from threesfit.errors import BadLot, BadNames, BadRule
from threesfit.orders import order_and_turn
from threesfit.rules import is_rule, left_turns, require_rule

MOST_ITEMS = 60


def require_both(one, other):
    """Raise BadRule unless both values are rules, the first one first."""
    for rule in (one, other):
        if not is_rule(rule):
            raise BadRule(rule)


def _is_closed(lefts, thing):
    """Whether any value is a closed tuple, by the left turns of the kinds."""
    if not is_kinds(thing, len(lefts)) or list(thing) != sorted(set(thing)):
        return False
    return all([left[y] in thing for left in lefts for y in thing])


def is_closed(rule, thing):
    """Whether any value is a closed tuple of a rule."""
    require_rule(rule)
    return _is_closed(left_turns(rule), thing)


def _rows_from(lefts, kind):
    """A dict that has, for each kind of the lot of a kind, a row whose turn leads that kind to it."""
    rows = {kind: ()}
    todo = [kind]
    while todo:
        y = todo.pop(0)
        for x, left in enumerate(lefts):
            if left[y] not in rows:
                rows[left[y]] = (x,) + rows[y]
                todo.append(left[y])
    return rows


def _lots(lefts):
    """The ascending list of the lots, by the left turns of the kinds."""
    lots_of_kinds = [tuple(sorted(_rows_from(lefts, kind))) for kind in range(len(lefts))]
    return [lot for kind, lot in enumerate(lots_of_kinds) if lot[0] == kind]


def lots(rule):
    """The ascending tuple of the lots of a rule."""
    require_rule(rule)
    return tuple(_lots(left_turns(rule)))


def is_calm(rule):
    """Whether each kind meets with itself to itself."""
    require_rule(rule)
    return all([rule[x][x] == (x, x) for x in range(len(rule))])


def judge_parted(rule):
    """A certificate: a lot that is not all of the rule, or rows whose turns lead the kind 0 to every kind."""
    require_rule(rule)
    rows = _rows_from(left_turns(rule), 0)
    if len(rows) < len(rule):
        return ("lots", tuple(sorted(rows)))
    return ("whole", tuple([rows[y] for y in range(len(rule))]))


def _is_part(lefts, thing):
    """Whether any value is a closed tuple that is neither () nor all kinds."""
    return _is_closed(lefts, thing) and 0 < len(thing) < len(lefts)


def _leads(lefts, row, y):
    """Whether any value is a row of not too many items whose turn leads the kind 0 to y."""
    if not is_kinds(row, len(lefts)) or len(row) > MOST_ITEMS:
        return False
    _, turn = order_and_turn(lefts, row)
    return turn[0] == y


def parted_holds(rule, thing):
    """Whether any value is a certificate for a rule."""
    require_rule(rule)
    lefts = left_turns(rule)
    if not isinstance(thing, tuple) or len(thing) != 2 or not isinstance(thing[1], tuple):
        return False
    if thing[0] == "lots":
        return _is_part(lefts, thing[1])
    if thing[0] != "whole" or len(thing[1]) != len(rule):
        return False
    return all([_leads(lefts, row, y) for y, row in enumerate(thing[1])])


def _restricted(rule, closed):
    """The rule of the kinds of a closed tuple that is not ()."""
    return tuple([tuple([(closed.index(rule[x][y][0]), closed.index(rule[x][y][1])) for y in closed]) for x in closed])


def restricted(rule, closed):
    """The rule of the kinds of a closed tuple, numbered anew in their order."""
    if not is_closed(rule, closed) or not closed:
        raise BadLot(closed)
    return _restricted(rule, closed)


def rule_with_names(rule, names):
    """The rule to which what is known to be a permutation renames a rule."""
    back = inverse(names)
    return tuple([tuple([(names[rule[x][y][0]], names[rule[x][y][1]]) for y in back]) for x in back])


def is_keeping(rule, thing):
    """Whether any value is a permutation that renames a rule to itself."""
    require_rule(rule)
    return is_permutation(thing, len(rule)) and rule_with_names(rule, thing) == rule


def _crossed(one, other, f, g):
    """The crossed rule of what are known to be two rules and keeping permutations of them."""
    n = len(one)
    back, behind = inverse(f), inverse(g)
    ahead = [one[x] + tuple([(n + g[z], back[x]) for z in range(len(other))]) for x in range(n)]
    for z, line in enumerate(other):
        ahead.append(tuple([(f[x], n + behind[z]) for x in range(n)]) + tuple([(n + u, n + v) for u, v in line]))
    return tuple(ahead)


def crossed(one, other, f, g):
    """The rule of the kinds of two rules, each of which turns the kinds of the other one by a keeping permutation."""
    require_both(one, other)
    for rule, names in ((one, f), (other, g)):
        if not is_keeping(rule, names):
            raise BadNames(names)
    return _crossed(one, other, f, g)


def beside(one, other):
    """The rule of the kinds of two rules, in which kinds of both only change places."""
    require_both(one, other)
    return _crossed(one, other, identity(len(one)), identity(len(other)))


def _shared_turn(lefts, kinds, others):
    """How all of the kinds turn the others, numbered anew; None if not all of them do so alike."""
    turns = [tuple([others.index(lefts[x][y]) for y in others]) for x in kinds]
    return turns[0] if len(set(turns)) == 1 else None


def crossing_of(rule, closed):
    """The two rules and their keeping permutations of which a rule is crossed; None if it is not crossed so."""
    require_rule(rule)
    lefts = left_turns(rule)
    if not _is_part(lefts, closed):
        raise BadLot(closed)
    others = tuple([y for y in range(len(rule)) if y not in closed])
    f, g = _shared_turn(lefts, others, closed), _shared_turn(lefts, closed, others)
    if f is None or g is None:
        return None
    return _restricted(rule, closed), _restricted(rule, others), f, g
