"""Two-sums: tables with a sum and a round product, from which rules come."""

from itertools import permutations, product

from threesfit.basics import (MOST_KINDS, added, after, identity, inverse, is_below, is_just, is_kinds, is_permutation,
                              is_square)
from threesfit.errors import BadKind, BadNames, BadRow, BadTwoSum, TooLong
from threesfit.folding import class_numbers
from threesfit.rules import left_turns, require_rule
from threesfit.turns import basis_and_least, sums_of_turns


def _is_pair_of_tables(thing):
    """Whether any value is a pair of tables of numbers of one size."""
    if not isinstance(thing, tuple) or len(thing) != 2 or not all([is_square(part) for part in thing]):
        return False
    m = len(thing[0])
    return len(thing[1]) == m and all([is_kinds(line, m) for part in thing for line in part])


def _breaks_one(pair, name, a):
    """Whether (name, a) is a fault, name being any value and a a number."""
    plus, times = pair
    if name == "plus 0":
        return plus[0][a] != a
    if name == "round 0":
        return times[0][a] != a
    if name == "no minus":
        return 0 not in plus[a]
    return name == "no back" and 0 not in [line[a] for line in times]


def _breaks_turned(pair, a, b):
    """Whether ("turned", a, b) is a fault."""
    return pair[0][a][b] != pair[0][b][a]


def _breaks_both(pair, a, b, c):
    """Whether ("both", a, b, c) is a fault."""
    plus, times = pair
    if any([0 not in line for line in plus]):
        return False
    whole = times[a][plus[b][c]]
    return any([plus[plus[times[a][b]][n]][times[a][c]] != whole for n, total in enumerate(plus[a]) if total == 0])


def _breaks_three(pair, name, a, b, c):
    """Whether (name, a, b, c) is a fault, name being any value and the rest numbers."""
    plus, times = pair
    if name == "plus":
        return plus[plus[a][b]][c] != plus[a][plus[b][c]]
    if name == "round":
        return times[times[a][b]][c] != times[a][times[b][c]]
    return name == "both" and _breaks_both(pair, a, b, c)


def _first_fault(pair):
    """A fault of a pair of tables, None if it has none."""
    m = len(pair[0])
    for name in ("plus 0", "round 0", "no minus", "no back"):
        for a in range(m):
            if _breaks_one(pair, name, a):
                return (name, a)
    for a, b in product(range(m), range(m)):
        if _breaks_turned(pair, a, b):
            return ("turned", a, b)
    for name in ("plus", "round", "both"):
        for a, b, c in product(range(m), range(m), range(m)):
            if _breaks_three(pair, name, a, b, c):
                return (name, a, b, c)
    return None


def is_twosum(thing):
    """Whether any value is a two-sum."""
    return _is_pair_of_tables(thing) and _first_fault(thing) is None


def _require_twosums(things):
    """Raise BadTwoSum unless all values are two-sums, the first one first."""
    for thing in things:
        if not is_twosum(thing):
            raise BadTwoSum(thing)


def _minus(twosum):
    """The tuple of minus a for each number a of a two-sum."""
    return tuple([line.index(0) for line in twosum[0]])


def _sums(twosum):
    """The certificate for a two-sum."""
    back = [[line[a] for line in twosum[1]].index(0) for a in range(len(twosum[1]))]
    return ("sums", _minus(twosum), tuple(back))


def judge_twosum(pair):
    """A certificate: minus and back of all numbers of a two-sum, or a fault."""
    fault = _first_fault(pair)
    return _sums(pair) if fault is None else fault


def twosum_holds(pair, thing):
    """Whether any value is a certificate for a pair of tables."""
    if not isinstance(thing, tuple) or not thing:
        return False
    if thing[0] == "sums":
        return _first_fault(pair) is None and is_just(thing, _sums(pair))
    if not is_kinds(thing[1:], len(pair[0])):
        return False
    if len(thing) == 2:
        return _breaks_one(pair, thing[0], thing[1])
    if len(thing) == 3:
        return thing[0] == "turned" and _breaks_turned(pair, thing[1], thing[2])
    return len(thing) == 4 and _breaks_three(pair, thing[0], thing[1], thing[2], thing[3])


def _inner_turns(twosum):
    """The list of the inner turns of all numbers of a two-sum."""
    plus, times = twosum
    return [tuple([plus[less][total] for total in times[a]]) for a, less in enumerate(_minus(twosum))]


def inner_turn(twosum, a):
    """The permutation that leads b to the sum of minus a and of the round product of a and b."""
    _require_twosums([twosum])
    if not is_below(a, len(twosum[0])):
        raise BadKind(a)
    return _inner_turns(twosum)[a]


def still_part(twosum):
    """The ascending tuple of the numbers whose inner turn is the identity."""
    _require_twosums([twosum])
    still = identity(len(twosum[0]))
    return tuple([a for a, turn in enumerate(_inner_turns(twosum)) if turn == still])


def _folded_table(table, names):
    """The table of the classes of numbers with these names."""
    firsts = [names.index(name) for name in range(max(names) + 1)]
    return tuple([tuple([names[table[a][b]] for b in firsts]) for a in firsts])


def folded_twosum(twosum):
    """The two-sum of the classes of numbers with equal inner turns."""
    _require_twosums([twosum])
    names = class_numbers(_inner_turns(twosum))
    return _folded_table(twosum[0], names), _folded_table(twosum[1], names)


def rule_of_twosum(twosum):
    """The rule by which the numbers of a two-sum meet."""
    _require_twosums([twosum])
    turns = _inner_turns(twosum)
    return tuple([tuple([(u, turns[u].index(a)) for u in turn]) for a, turn in enumerate(turns)])


def round_of_row(twosum, row):
    """The round product of a row of the rule of a two-sum."""
    _require_twosums([twosum])
    if not is_kinds(row, len(twosum[1])):
        raise BadRow(row)
    found = 0
    for a in row:
        found = twosum[1][found][a]
    return found


def twosum_of_turns(rule):
    """The two-sum of the turns of a rule."""
    require_rule(rule)
    _, least = basis_and_least(left_turns(rule))
    if len(least) > MOST_KINDS:
        raise TooLong()
    turns, sums = sums_of_turns(left_turns(rule))
    return sums, tuple([tuple([turns.index(after(one, other)) for other in turns]) for one in turns])


def _renamed_table(table, names):
    """The table in which renamed numbers stand as their own do in a table."""
    back = inverse(names)
    return tuple([tuple([names[table[a][b]] for b in back]) for a in back])


def _renamed(twosum, names):
    """The pair of tables to which what is known to be a permutation renames a two-sum."""
    return _renamed_table(twosum[0], names), _renamed_table(twosum[1], names)


def renamed_twosum(twosum, names):
    """The two-sum to which a permutation renames a two-sum."""
    _require_twosums([twosum])
    if not is_permutation(names, len(twosum[0])) or names[0] != 0:
        raise BadNames(names)
    return _renamed(twosum, names)


def _all_names(m):
    """All permutations of m numbers with 0 first, ascending."""
    return [(0,) + names for names in permutations(range(1, m))]


def _least(twosum):
    """The least name of what is known to be a two-sum."""
    return min([_renamed(twosum, names) for names in _all_names(len(twosum[0]))])


def least_twosum(twosum):
    """The least pair of tables to which a two-sum is renamed."""
    _require_twosums([twosum])
    return _least(twosum)


def twosum_renamings(one, other):
    """The ascending tuple of all permutations that rename a two-sum to another one."""
    _require_twosums([one, other])
    if len(one[0]) != len(other[0]):
        return ()
    return tuple([names for names in _all_names(len(one[0])) if _renamed(one, names) == other])


def _factorings(m, least):
    """The ascending tuples of factors from a least one on whose product is m."""
    if m == 1:
        return [()]
    return [(factor,) + more for factor in range(least, m + 1) if m % factor == 0
            for more in _factorings(m // factor, factor)]


def _remainders(numbers, factors):
    """The remainders of numbers by factors, place by place."""
    return tuple([number % factor for number, factor in zip(numbers, factors)])


def _sum_table(factors):
    """The table of sums of tuples of remainders by some factors, numbered as they ascend."""
    tuples = [()]
    for factor in factors:
        tuples = [part + (number,) for part in tuples for number in range(factor)]
    return tuple([tuple([tuples.index(_remainders(added(one, other), factors)) for other in tuples]) for one in tuples])


def _fit(plus, turns):
    """Whether the inner turns of the first numbers break nothing that can be told by them alone."""
    many = len(turns)
    for a, b in product(range(many), range(many)):
        c = plus[a][turns[a][b]]
        if c < many and turns[c] != after(turns[a], turns[b]):
            return False
    return True


def _twosums_with(plus):
    """All two-sums with what is known to be a table of sums."""
    m = len(plus)
    # Inner turns lead sums to sums, and they alone make the round products.
    choices = [names for names in _all_names(m) if _renamed_table(plus, names) == plus]
    found = [(identity(m),)]
    for _ in range(m - 1):
        longer = [turns + (turn,) for turns in found for turn in choices]
        found = [turns for turns in longer if _fit(plus, turns)]
    return [(plus, tuple([tuple([line[to] for to in turn]) for line, turn in zip(plus, turns)])) for turns in found]


def all_twosums(size):
    """The ascending tuple of the least names of all two-sums of a size."""
    # Up to names, sums are those of tuples of remainders.
    tables = [_sum_table(factors) for factors in _factorings(size, 2)]
    return tuple(sorted(set([_least(twosum) for plus in tables for twosum in _twosums_with(plus)])))
