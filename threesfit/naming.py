"""Names: rules that are one up to names, certificates for that, and all rules of few kinds."""

from itertools import permutations, product
from math import factorial

from threesfit.basics import after, is_kinds, is_permutation
from threesfit.errors import BadNames, BadRow
from threesfit.parting import require_both, rule_with_names
from threesfit.rules import require_rule
from threesfit.stars import rule_of


def require_names(rule, names):
    """Raise BadRule unless the rule is one, and BadNames unless the names are a permutation of its kinds."""
    require_rule(rule)
    if not is_permutation(names, len(rule)):
        raise BadNames(names)


def renamed(rule, names):
    """The rule to which a permutation renames a rule."""
    require_names(rule, names)
    return rule_with_names(rule, names)


def renamed_row(rule, names, row):
    """The row to which a permutation renames a row."""
    require_names(rule, names)
    if not is_kinds(row, len(rule)):
        raise BadRow(row)
    return tuple([names[x] for x in row])


def _least_name(rule):
    """The least name of what is known to be a rule."""
    return min([rule_with_names(rule, names) for names in permutations(range(len(rule)))])


def least_name(rule):
    """The least of all rules to which a rule is renamed."""
    require_rule(rule)
    return _least_name(rule)


def _renamings(one, other):
    """All permutations, ascending, that rename a rule to another one; both are known to be rules."""
    if len(one) != len(other):
        return ()
    return tuple([names for names in permutations(range(len(one))) if rule_with_names(one, names) == other])


def keepings(rule):
    """The ascending tuple of the keeping permutations of a rule."""
    require_rule(rule)
    return _renamings(rule, rule)


def many_named(rule):
    """The number of rules to which a rule is renamed."""
    many = len(keepings(rule))
    return factorial(len(rule)) // many


def renamings(one, other):
    """The ascending tuple of all permutations that rename a rule to another one."""
    require_both(one, other)
    return _renamings(one, other)


def _clashes(one, other, beginning, x, y):
    """Whether a beginning clashes at a pair of positions in it."""
    for u, wanted in zip(one[x][y], other[beginning[x]][beginning[y]]):
        if u < len(beginning):
            if beginning[u] != wanted:
                return True
        elif wanted in beginning:
            return True
    return False


def _first_clash(one, other, beginning):
    """A pair of positions at which a beginning clashes, None if there is none."""
    many = len(beginning)
    for x, y in product(range(many), range(many)):
        if _clashes(one, other, beginning, x, y):
            return x, y
    return None


def _longer(beginning, n):
    """The beginnings with one more of n kinds put behind, in the order of these kinds."""
    return [beginning + (kind,) for kind in range(n) if kind not in beginning]


def _cases(one, other, beginning):
    """The tree of cases of a beginning, for rules that are not one up to names."""
    cases = []
    for longer in _longer(beginning, len(one)):
        clash = _first_clash(one, other, longer)
        cases.append(("clash",) + clash if clash is not None else _cases(one, other, longer))
    return tuple(cases)


def _first_renaming(one, other, beginning):
    """The first permutation with a beginning that renames a rule to another one, None if there is none."""
    if len(beginning) == len(one):
        return beginning
    for longer in _longer(beginning, len(one)):
        if _first_clash(one, other, longer) is None:
            names = _first_renaming(one, other, longer)
            if names is not None:
                return names
    return None


def judge_named(one, other):
    """A certificate: a permutation that renames a rule to another one, or a tree of cases, or that the sizes differ."""
    require_both(one, other)
    if len(one) != len(other):
        return ("sizes",)
    names = _first_renaming(one, other, ())
    return ("names", names) if names is not None else ("cases", _cases(one, other, ()))


def _is_clash(one, other, beginning, thing):
    """Whether any value tells a pair of positions at which a beginning clashes."""
    if not isinstance(thing, tuple) or len(thing) != 3 or thing[0] != "clash":
        return False
    return is_kinds(thing[1:], len(beginning)) and _clashes(one, other, beginning, thing[1], thing[2])


def _is_tree(one, other, beginning, thing):
    """Whether any value is a tree of cases of a beginning with fewer items than there are kinds."""
    beginnings = _longer(beginning, len(one))
    if not isinstance(thing, tuple) or len(thing) != len(beginnings):
        return False
    for longer, case in zip(beginnings, thing):
        if not _is_clash(one, other, longer, case):
            if len(longer) == len(one) or not _is_tree(one, other, longer, case):
                return False
    return True


def named_holds(one, other, thing):
    """Whether any value is a certificate for two rules."""
    require_both(one, other)
    if len(one) != len(other):
        return thing == ("sizes",)
    if not isinstance(thing, tuple) or len(thing) != 2:
        return False
    if thing[0] == "names":
        return is_permutation(thing[1], len(one)) and rule_with_names(one, thing[1]) == other
    return thing[0] == "cases" and _is_tree(one, other, (), thing[1])


def _fit(lines):
    """Whether the first lines of a star table break nothing that can be told by them alone."""
    many = len(lines)
    for x, y in product(range(many), range(many)):
        a, b = lines[x][y], lines[y][x]
        if max(a, b) < many and after(lines[a], lines[x]) != after(lines[b], lines[y]):
            return False
    return True


def _star_tables(n):
    """All star tables of a size."""
    found = [()]
    for _ in range(n):
        longer = [lines + (line,) for lines in found for line in permutations(range(n))]
        found = [lines for lines in longer if _fit(lines)]
    return found


def all_rules(size):
    """The ascending tuple of the least names of all rules of so many kinds."""
    return tuple(sorted(set([_least_name(rule_of(stars)) for stars in _star_tables(size)])))
