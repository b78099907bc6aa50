"""Closed tuples, lots, calm and parted rules, restricted, crossed and beside, and what is crossed."""

from itertools import combinations, permutations, product

from tests.samples import (BIG_RULES, BOTH, CALM, CYCLE, DEEP, EIGHT_TURNS, GUARD, ONE, RULES, SIX_RULES, SMALL_RULES, STRANGE,
                           STUCK, SWAP, WRONG_RULES, Case, are_plainly_alike, beside as plain_beside, led, plain_motion,
                           plain_renamed, rows_of, shifted, spoiled, wrong_rows)
from threesfit.errors import BadLot, BadNames, BadRule
from threesfit.folding import folded
from threesfit.naming import all_rules, renamings
from threesfit.parting import (beside, crossed, crossing_of, is_calm, is_closed, is_keeping, judge_parted, lots, parted_holds,
                               restricted)
from threesfit.rules import is_rule, mirror

ALL = RULES + SIX_RULES
PARTED = [rule for rule in ALL if len(lots(rule)) > 1]


def parts_of(n):
    """All ascending tuples of n kinds."""
    return [part for many in range(n + 1) for part in combinations(range(n), many)]


def plain_closed(rule, part):
    return all(rule[x][y][0] in part for x in range(len(rule)) for y in part)


def plain_is_closed(rule, thing):
    """Whether any value is a closed tuple, by the words of the document."""
    if type(thing) is not tuple or any(type(x) is not int or not 0 <= x < len(rule) for x in thing):
        return False
    return list(thing) == sorted(set(thing)) and plain_closed(rule, thing)


def plain_keepings(rule):
    return {p for p in permutations(range(len(rule))) if plain_renamed(rule, p) == rule}


def wrong_parts(rule):
    """Values that are no closed tuples of a rule."""
    n = len(rule)
    every = tuple(range(n))
    things = STRANGE + wrong_rows(n) + parts_of(n) + [every + (n,), every[::-1], every * 2, list(every), (True,) + every[1:], every + (-1,)]
    return [thing for thing in things if not plain_is_closed(rule, thing)]


class LotTests(Case):
    def test_closed_tuples(self):
        for rule in ALL:
            closed = [part for part in parts_of(len(rule)) if plain_closed(rule, part)]
            for part in parts_of(len(rule)):
                self.says(part in closed, is_closed, rule, part)
                if part in closed:
                    self.is_just(all(rule[x][y][1] in part for x in part for y in range(len(rule))), True)
                    self.is_just(is_closed(mirror(rule), part), True)
            for thing in wrong_parts(rule):
                self.says(False, is_closed, rule, thing)
            for thing in spoiled(tuple(range(len(rule)))):
                self.says(plain_is_closed(rule, thing), is_closed, rule, thing)
        self.is_just(is_closed(thing=(0, 1), rule=GUARD), True)

    def test_lots(self):
        for rule in ALL:
            closed = [part for part in parts_of(len(rule)) if part and plain_closed(rule, part)]
            least = [part for part in closed if not any(set(other) < set(part) for other in closed)]
            self.is_just(lots(rule), tuple(sorted(least)))
            self.is_just(sorted(x for lot in lots(rule) for x in lot), list(range(len(rule))))
            for part in parts_of(len(rule)):
                made = {x for lot in lots(rule) if set(lot) <= set(part) for x in lot}
                self.is_just(is_closed(rule, part), made == set(part))
        self.is_just([lots(GUARD), lots(SWAP), lots(ONE), lots(CALM), lots(CYCLE)],
                     [((0, 1), (2,)), ((0,), (1, 2)), ((0,),), ((0,), (1,)), ((0, 1, 2),)])
        self.is_just(lots(rule=(((0, 0), (1, 2), (2, 0)), ((2, 1), (1, 1), (0, 1)), ((0, 2), (1, 0), (2, 2)))), ((0, 2), (1,)))

    def test_kinds_of_one_lot(self):
        for rule in SMALL_RULES:
            for y in range(len(rule)):
                reached = {plain_motion(rule, row)[1][y] for row in rows_of(len(rule), 4 if len(rule) < 4 else 3)}
                self.assertIn(tuple(sorted(reached)), lots(rule))

    def test_calm_rules(self):
        for rule in ALL:
            self.is_just(is_calm(rule), all(rule[x][x] == (x, x) for x in range(len(rule))))
            if is_calm(rule) and len(rule) > 1:
                self.assertGreater(len(lots(rule)), 1)
        self.is_just([is_calm(ONE), is_calm(CALM), is_calm(GUARD), is_calm(SWAP), is_calm(BOTH), is_calm(CYCLE)],
                     [True, True, True, True, False, False])
        self.is_just(is_calm(rule=EIGHT_TURNS), False)
        # The first kind alone does not tell.
        self.is_just(is_calm(plain_beside(ONE, BOTH)), False)

    def test_rules_that_are_not_parted(self):
        for n in (2, 3):
            whole = [rule for rule in all_rules(n) if len(lots(rule)) == 1]
            self.assertEqual([bool(renamings(rule, shifted(n))) for rule in whole], [True])
        for n in (1, 5, 7, 8):
            self.is_just(lots(shifted(n)), (tuple(range(n)),))


class PartedTests(Case):
    def test_judged(self):
        for rule in ALL:
            found = judge_parted(rule)
            self.is_just(parted_holds(rule, found), True)
            self.is_just([type(found), len(found), type(found[1])], [tuple, 2, tuple])
            if rule in PARTED:
                self.is_just(found[0], "lots")
                self.assertIn(found[1], [part for part in parts_of(len(rule))[1:-1] if plain_closed(rule, part)])
            else:
                self.is_just([found[0], len(found[1])], ["whole", len(rule)])
                for y, row in enumerate(found[1]):
                    self.is_just((plain_motion(rule, row)[1][0], len(row) <= 60), (y, True))
        self.is_just(judge_parted(rule=ONE), ("whole", ((),)))

    def test_lots_as_certificates(self):
        for rule in ALL:
            for part in parts_of(len(rule)):
                wanted = plain_closed(rule, part) and 0 < len(part) < len(rule)
                self.is_just(parted_holds(rule, ("lots", part)), wanted)

    def test_rows_as_certificates(self):
        for rule in [ONE, BOTH, CYCLE, STUCK, shifted(4)]:
            n = len(rule)
            ways = {y: [row for row in list(rows_of(n, 3)) + [(0,) * 59, (0,) * 60, (n - 1,) * 60, (0,) * 58 + (n - 1,) * 2]
                        if plain_motion(rule, row)[1][0] == y] for y in range(n)}
            for k in range(60):
                rows = tuple(ways[y][(k * (y + 3)) % len(ways[y])] for y in range(n))
                self.says(True, parted_holds, rule, ("whole", rows))
                for wrong in [rows[1:], rows + rows[:1], rows[1:] + rows[:1], list(rows), rows[:-1] + (list(rows[-1]),),
                              rows[:-1] + (rows[-1] + (n,),), rows[:-1] + (None,), tuple(rows[:1]) * n, rows[:-1] + (0,)]:
                    wanted = n == 1 and wrong == rows
                    self.says(wanted, parted_holds, rule, ("whole", wrong))
        self.is_just(parted_holds(BOTH, ("whole", ((0,) * 60, (1,) * 59))), True)
        self.is_just(parted_holds(BOTH, ("whole", ((0,) * 62, (1,)))), False)
        self.is_just(parted_holds(BOTH, ("whole", ((), (1,) * 61))), False)
        self.is_just(parted_holds(BOTH, ("whole", ((), (True,)))), False)
        self.is_just(parted_holds(thing=("lots", (2,)), rule=GUARD), True)

    def test_any_value(self):
        for rule in [ONE, BOTH, GUARD, STUCK, CALM, plain_beside(BOTH, GUARD)]:
            right = judge_parted(rule)
            things = list(spoiled(right)) + STRANGE + [("lots",), ("whole",), (), ("lots", []), ("lots", None), ("whole", None), ("whole", ()),
                                                      ("whole", []), ["lots", (0,)], {"lots": (0,)}, "lots", ("lots", (0,), (0,)),
                                                      ("lots", (True,)), ("lots", (False,)), ("lots", (2, 0)), ("lots", (0, 0, 1)), ("lots", DEEP)]
            for thing in things:
                self.says(plain_parted_holds(rule, thing), parted_holds, rule, thing)


def plain_parted_holds(rule, thing):
    """Whether any value is a certificate, by the words of the document."""
    n = len(rule)
    if type(thing) is not tuple or len(thing) != 2 or thing[0] not in ("lots", "whole"):
        return False
    if thing[0] == "lots":
        return plain_is_closed(rule, thing[1]) and 0 < len(thing[1]) < n
    if type(thing[1]) is not tuple or len(thing[1]) != n:
        return False
    for y, row in enumerate(thing[1]):
        if type(row) is not tuple or len(row) > 60 or any(type(x) is not int or not 0 <= x < n for x in row):
            return False
        if plain_motion(rule, row)[1][0] != y:
            return False
    return True


class RestrictedTests(Case):
    def test_all_closed_tuples(self):
        for rule in ALL:
            for part in parts_of(len(rule)):
                if not part or not plain_closed(rule, part):
                    self.refuses(BadLot, part, restricted, rule, part)
                    continue
                found = restricted(rule, part)
                self.is_just(is_rule(found), True)
                for x, y in product(range(len(part)), repeat=2):
                    u, v = found[x][y]
                    self.is_just((part[u], part[v]), rule[part[x]][part[y]])
        self.is_just(restricted(closed=(0, 1), rule=GUARD), CALM)

    def test_alike_rows(self):
        for rule in [GUARD, SWAP, plain_beside(BOTH, GUARD), crossed(BOTH, CALM, (1, 0), (1, 0))]:
            for lot in lots(rule):
                own = restricted(rule, lot)
                for one, other in product(rows_of(len(lot), 3), repeat=2):
                    wide = [tuple(lot[x] for x in row) for row in (one, other)]
                    self.is_just(are_plainly_alike(own, one, other), are_plainly_alike(rule, *wide))


class CrossedTests(Case):
    def check(self, one, other, f, g):
        n, m = len(one), len(other)
        found = crossed(one, other, f, g)
        self.is_just([is_rule(found), len(found)] if n + m < 9 else [True, n + m], [True, n + m])
        for x, y in product(range(n), repeat=2):
            self.is_just(found[x][y], one[x][y])
        for z, w in product(range(m), repeat=2):
            self.is_just(found[n + z][n + w], tuple(n + part for part in other[z][w]))
        for x, z in product(range(n), range(m)):
            self.is_just(found[x][n + z], (n + g[z], f.index(x)))
            self.is_just(found[n + z][x], (f[x], n + g.index(z)))
        closed = tuple(range(n))
        self.is_just(is_closed(found, closed), True)
        self.is_just(crossing_of(found, closed), (one, other, f, g))
        self.is_just(crossing_of(found, tuple(range(n, n + m))), (other, one, g, f))
        return found

    def test_small_rules(self):
        for one, other in product([ONE, CALM, BOTH, GUARD, SWAP, CYCLE], repeat=2):
            for f, g in product(sorted(plain_keepings(one)), sorted(plain_keepings(other))):
                self.check(one, other, f, g)

    def test_greater_rules(self):
        for one, other in [(STUCK, EIGHT_TURNS), (led((1, 2, 0, 3)), STUCK), (shifted(5), GUARD), (ONE, shifted(7)), (plain_beside(BOTH, BOTH), STUCK)]:
            for f, g in list(product(sorted(plain_keepings(one)), sorted(plain_keepings(other))))[:30]:
                self.check(one, other, f, g)

    def test_beside(self):
        for one, other in product(SMALL_RULES, repeat=2):
            self.is_just(beside(one, other), plain_beside(one, other))
            self.is_just(beside(one, other), crossed(one, other, tuple(range(len(one))), tuple(range(len(other)))))
        self.is_just(beside(other=BOTH, one=ONE), plain_beside(ONE, BOTH))
        self.is_just(crossed(g=(0,), f=(1, 0), other=ONE, one=CALM), GUARD)
        self.is_just(folded(beside(ONE, ONE)), ONE)

    def test_what_is_crossed(self):
        for rule in ALL + [plain_renamed(crossed(CALM, BOTH, (1, 0), (1, 0)), p) for p in permutations(range(4))]:
            n = len(rule)
            for part in parts_of(n)[1:-1]:
                if not plain_closed(rule, part):
                    continue
                rest = tuple(y for y in range(n) if y not in part)
                inner = {tuple(rule[z][x][0] for x in part) for z in rest}
                outer = {tuple(rule[x][z][0] for z in rest) for x in part}
                found = crossing_of(rule, part)
                if len(inner) > 1 or len(outer) > 1:
                    self.is_just(found, None)
                    continue
                f, g = tuple(part.index(x) for x in inner.pop()), tuple(rest.index(z) for z in outer.pop())
                self.is_just(found, (restricted(rule, part), restricted(rule, rest), f, g))
                self.is_just(plain_renamed(crossed(*found), part + rest), rule)

    def test_no_cross_parts(self):
        # The kinds of one lot turn the other one in unlike ways: first those of the tuple, then those of the rest.
        for rule in all_rules(4):
            for part in parts_of(4)[1:-1]:
                if plain_closed(rule, part):
                    alike = [len({tuple(rule[x][y][0] for y in range(4) if y not in kinds) for x in kinds}) == 1
                             for kinds in (part, tuple(y for y in range(4) if y not in part))]
                    self.is_just(crossing_of(rule, part) is None, not all(alike))

    def test_keeping(self):
        for rule in SMALL_RULES + [shifted(5)]:
            keepings = plain_keepings(rule)
            for p in permutations(range(len(rule))):
                self.says(p in keepings, is_keeping, rule, p)
            for thing in STRANGE + wrong_names(rule) + list(spoiled(tuple(range(len(rule))))):
                wanted = type(thing) is tuple and {type(part) for part in thing} == {int} and thing in keepings
                self.says(wanted, is_keeping, rule, thing)
        self.is_just(is_keeping(thing=(1, 0, 2), rule=GUARD), True)


def wrong_names(rule):
    """Values that are no keeping permutations of a rule."""
    n = len(rule)
    every = tuple(range(n))
    others = [p for p in permutations(every) if p not in plain_keepings(rule)] if n < 5 else []
    things = STRANGE + [every + (n,), every[1:], list(every), (), None, "0" * n, (False,) + every[1:], every[:-1] + (str(n - 1),), {0: 0}, 0]
    return [thing for thing in things if plain_is_wrong(thing, every)] + others


def plain_is_wrong(thing, every):
    return type(thing) is not tuple or {type(part) for part in thing} != {int} or sorted(thing) != list(every)


class WrongTests(Case):
    def test_wrong_rules(self):
        for rule in WRONG_RULES:
            for tell in (lots, is_calm, judge_parted):
                self.refuses(BadRule, rule, tell, rule)
            for tell in (is_closed, parted_holds, restricted, is_keeping, crossing_of):
                self.refuses(BadRule, rule, tell, rule, (0,))
                self.refuses(BadRule, rule, tell, rule, [None])
            self.refuses(BadRule, rule, beside, rule, CALM)
            self.refuses(BadRule, rule, beside, CALM, rule)
            self.refuses(BadRule, rule, beside, rule, [None])
            self.refuses(BadRule, rule, crossed, rule, CALM, (0,), None)
            self.refuses(BadRule, rule, crossed, CALM, rule, None, (0,))
            self.refuses(BadRule, rule, crossed, rule, [None], None, None)

    def test_wrong_parts(self):
        for rule in [ONE, BOTH, GUARD, STUCK] + BIG_RULES[:3]:
            for thing in wrong_parts(rule) + [()]:
                self.refuses(BadLot, thing, restricted, rule, thing)
            for thing in wrong_parts(rule) + [(), tuple(range(len(rule)))]:
                self.refuses(BadLot, thing, crossing_of, rule, thing)
        self.refuses(BadLot, DEEP, crossing_of, closed=DEEP, rule=GUARD)

    def test_wrong_names(self):
        for rule, right in [(ONE, (0,)), (BOTH, (1, 0)), (GUARD, (1, 0, 2)), (STUCK, (0, 1, 2, 3))]:
            for names in wrong_names(rule):
                self.refuses(BadNames, names, crossed, rule, CALM, names, (1, 0))
                self.refuses(BadNames, names, crossed, CALM, rule, (1, 0), names)
                self.refuses(BadNames, names, crossed, rule, rule, names, None)
                self.refuses(BadNames, names, crossed, rule, rule, right, names)
        self.refuses(BadNames, (0, 2, 1), crossed, GUARD, ONE, (0, 2, 1), (1,))
