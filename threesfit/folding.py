"""Folding: kinds that turn alike, towers of folded rules, levels, and ends behind tuples of kinds."""

from threesfit.basics import is_below, is_just, is_kinds, is_whole
from threesfit.errors import BadKind, BadNumber, BadRow
from threesfit.orders import require_row
from threesfit.rules import left_turns, require_rule
from threesfit.stars import stars_of


def class_numbers(things):
    """For each thing the number of its class of equal things, the classes numbered as they come."""
    firsts = []
    for thing in things:
        if thing not in firsts:
            firsts.append(thing)
    return tuple([firsts.index(thing) for thing in things])


def _names(rule):
    """The names of the kinds of what is known to be a rule."""
    return class_numbers(left_turns(rule))


def names_of(rule):
    """The tuple that has for each kind the number of its class of kinds that turn alike."""
    require_rule(rule)
    return _names(rule)


def _fold(rule, names):
    """The folded rule, by the names of the kinds."""
    firsts = [names.index(number) for number in range(max(names) + 1)]
    return tuple([tuple([(names[rule[x][y][0]], names[rule[x][y][1]]) for y in firsts]) for x in firsts])


def folded(rule):
    """The folded rule: the classes of kinds that turn alike meet as their kinds do."""
    return _fold(rule, names_of(rule))


def folded_row(rule, row):
    """The row of the classes of the items of a row."""
    require_row(rule, row)
    names = _names(rule)
    return tuple([names[x] for x in row])


def _folds(rule):
    """The tuple of the pairs of folded rules and names, down to the rule that is unfoldable."""
    folds = []
    here = rule
    names = _names(here)
    while max(names) + 1 < len(here):
        here = _fold(here, names)
        folds.append((here, names))
        names = _names(here)
    return tuple(folds)


def tower(rule):
    """The tuple of the rule, its folded rule, and so on, up to the first one that is unfoldable."""
    require_rule(rule)
    return (rule,) + tuple([here for here, _ in _folds(rule)])


def level(rule):
    """How many folds lead a rule to one kind, None if it is stuck."""
    rules = tower(rule)
    return len(rules) - 1 if len(rules[-1]) == 1 else None


def _end(stars, kind, kinds):
    """The end of a kind behind a tuple of kinds, by the star table."""
    end = kind
    for y in kinds:
        end = stars[end][y]
    return end


def end_behind(rule, kind, kinds):
    """The end of a kind behind a tuple of kinds."""
    require_rule(rule)
    if not is_below(kind, len(rule)):
        raise BadKind(kind)
    if not is_kinds(kinds, len(rule)):
        raise BadRow(kinds)
    return _end(stars_of(rule), kind, kinds)


def _require_most(rule, m):
    """Raise BadRule unless the rule is one, and BadNumber unless m is an integer from 0 on."""
    require_rule(rule)
    if not is_whole(m) or m < 0:
        raise BadNumber(m)


def _falls(rule, m):
    """Whether a rule falls and has a level of at most m."""
    found = level(rule)
    return found is not None and found <= m


def _led(stars, pair, y):
    """The pair to which a kind leads a pair of kinds, the greater one first."""
    a, b = stars[pair[0]][y], stars[pair[1]][y]
    return max(a, b), min(a, b)


def _ways_on(stars, pairs):
    """A dict that tells, for each pair of unlike kinds that some kind leads to one of the pairs, such a kind."""
    kinds = range(len(stars))
    return {(a, b): y for a in kinds for b in range(a) for y in kinds if _led(stars, (a, b), y) in pairs}


def _chain(rule, m):
    """Two kinds and a tuple of m kinds, behind which the two have unlike ends."""
    stars = stars_of(rule)
    ways = [{(a, b): a for a in range(len(rule)) for b in range(a)}]
    for _ in range(m):
        ways.append(_ways_on(stars, ways[-1]))
    first = min(ways[-1])
    kinds = []
    pair = first
    for way in ways[:0:-1]:
        kinds.append(way[pair])
        pair = _led(stars, pair, kinds[-1])
    return first + (tuple(kinds),)


def judge_level(rule, m):
    """A certificate: the folds down to one kind, or a chain of m kinds that keeps two kinds apart."""
    _require_most(rule, m)
    if _falls(rule, m):
        return ("falls", _folds(rule))
    return ("chains",) + _chain(rule, m)


def level_holds(rule, m, thing):
    """Whether any value is a certificate for a rule and a number."""
    _require_most(rule, m)
    if not isinstance(thing, tuple) or not thing:
        return False
    if thing[0] == "falls":
        return _falls(rule, m) and is_just(thing, ("falls", _folds(rule)))
    if thing[0] != "chains" or len(thing) != 4 or not is_kinds(thing[1:3], len(rule)):
        return False
    if not is_kinds(thing[3], len(rule)) or len(thing[3]) != m:
        return False
    stars = stars_of(rule)
    return _end(stars, thing[1], thing[3]) != _end(stars, thing[2], thing[3])
