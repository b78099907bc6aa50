"""Names of kinds, folded rules and rows, towers, levels, ends, and their certificates."""

from itertools import permutations, product

from tests.samples import (BIG_RULES, BOTH, CALM, CYCLE, DEEP, EIGHT_TURNS, GUARD, ONE, RULES, SIX_RULES, SMALL_RULES, STRANGE,
                           STUCK, SWAP, WRONG_NUMBERS, WRONG_RULES, Case, beside, class_of, led, plain_motion, plain_renamed,
                           rows_of, shifted, spoiled, wrong_kinds, wrong_rows)
from threesfit.errors import BadKind, BadNumber, BadRow, BadRule
from threesfit.folding import (end_behind, folded, folded_row, judge_level, level, level_holds, names_of, tower)
from threesfit.rules import is_rule
from threesfit.stars import stars_of

# A rule of level 3.
HIGH = (((0, 0), (1, 0), (2, 0), (3, 1)), ((0, 1), (1, 1), (2, 1), (3, 0)), ((0, 2), (1, 2), (3, 3), (2, 3)),
        ((1, 3), (0, 3), (3, 2), (2, 2)))
ALL = RULES + SIX_RULES


def plain_names(rule):
    """The numbers of the classes of kinds whose left turns are equal."""
    lefts = [tuple(pair[0] for pair in line) for line in rule]
    order = []
    for left in lefts:
        if left not in order:
            order.append(left)
    return tuple(order.index(left) for left in lefts)


def plain_folded(rule):
    """The folded rule: the lines of the table are written over one another, and must agree."""
    names = plain_names(rule)
    m = max(names) + 1
    found = {}
    for x, y in product(range(len(rule)), repeat=2):
        u, v = rule[x][y]
        assert found.setdefault((names[x], names[y]), (names[u], names[v])) == (names[u], names[v])
    return tuple(tuple(found[x, y] for y in range(m)) for x in range(m))


def plain_tower(rule):
    rules = [rule]
    while len(plain_folded(rules[-1])) < len(rules[-1]):
        rules.append(plain_folded(rules[-1]))
    return tuple(rules)


def plain_level(rule):
    rules = plain_tower(rule)
    return len(rules) - 1 if len(rules[-1]) == 1 else None


def plain_end(rule, kind, kinds):
    """The end of a kind: S[b][y] = z for L_b[z] = y."""
    for y in kinds:
        kind = [z for z in range(len(rule)) if rule[kind][z][0] == y][0]
    return kind


class FoldTests(Case):
    def test_names_and_folded_rules(self):
        for rule in ALL:
            self.is_just(names_of(rule), plain_names(rule))
            self.is_just(folded(rule), plain_folded(rule))
            self.is_just(is_rule(folded(rule)), True)
            self.is_just(folded(rule) == rule, len(set(plain_names(rule))) == len(rule))
            rights = [tuple(line[y][1] for line in rule) for y in range(len(rule))]
            for x, y in product(range(len(rule)), repeat=2):
                if names_of(rule)[x] == names_of(rule)[y]:
                    self.assertEqual(rights[x], rights[y])
        self.is_just([names_of(GUARD), folded(GUARD), folded(STUCK) == STUCK], [(0, 0, 1), CALM, True])
        self.is_just([names_of(ONE), folded(ONE), names_of(led((1, 2, 0, 3))), folded(CYCLE)], [(0,), ONE, (0, 0, 0, 0), ONE])
        # The kinds of a class need not be neighbours.
        self.is_just(names_of((((0, 0), (1, 2), (2, 0)), ((2, 1), (1, 1), (0, 1)), ((0, 2), (1, 0), (2, 2)))), (0, 1, 0))

    def test_folded_rows(self):
        for rule in ALL:
            names = plain_names(rule)
            for row in list(rows_of(len(rule), 1)) + [tuple(k * k % len(rule) for k in range(60))]:
                self.says(tuple(names[x] for x in row), folded_row, rule, row)
        for rule in SMALL_RULES + [HIGH]:
            other = folded(rule)
            for row in rows_of(len(rule), 3):
                self.assertLessEqual({folded_row(rule, one) for one in class_of(rule, row)}, class_of(other, folded_row(rule, row)))
                names = plain_names(rule)
                turn, after = plain_motion(rule, row)[1], plain_motion(other, folded_row(rule, row))[1]
                self.is_just([after[names[y]] for y in range(len(rule))], [names[to] for to in turn])

    def test_towers_and_levels(self):
        for rule in ALL + [HIGH, beside(HIGH, GUARD), beside(HIGH, STUCK)]:
            self.is_just(tower(rule), plain_tower(rule))
            self.is_just(level(rule), plain_level(rule))
            for x, other in enumerate(tower(rule)[1:]):
                self.is_just(other, folded(tower(rule)[x]))
            if level(rule) is not None:
                self.assertLess(level(rule), len(rule))
            self.is_just(level(rule) in (0, 1), len(set(plain_names(rule))) == 1)
        self.is_just([level(rule) for rule in [ONE, CALM, BOTH, GUARD, SWAP, CYCLE, STUCK, HIGH]], [0, 1, 1, 2, 2, 1, None, 3])
        self.is_just([tower(ONE), tower(BOTH), tower(STUCK), level(EIGHT_TURNS), level(beside(GUARD, STUCK))],
                     [(ONE,), (BOTH, ONE), (STUCK,), plain_level(EIGHT_TURNS), None])

    def test_by_name(self):
        self.is_just((names_of(rule=GUARD), folded(rule=GUARD), tower(rule=ONE), level(rule=GUARD)), ((0, 0, 1), CALM, (ONE,), 2))
        self.is_just(folded_row(row=(2, 0, 1), rule=GUARD), (1, 0, 0))
        self.is_just(end_behind(kinds=(0,), kind=2, rule=GUARD), 1)
        self.is_just(judge_level(m=0, rule=ONE), ("falls", ()))
        self.is_just(level_holds(thing=("chains", 0, 2, (0,)), m=1, rule=GUARD), True)


class EndTests(Case):
    def test_ends(self):
        for rule in ALL:
            n = len(rule)
            for kinds in list(rows_of(n, 2)) + [tuple(k * k % n for k in range(60)), (n - 1,) * 59]:
                for kind in range(n):
                    self.is_just(end_behind(rule, kind, kinds), plain_end(rule, kind, kinds))
            stars = stars_of(rule)
            self.is_just([[end_behind(rule, x, (y,)) for y in range(n)] for x in range(n)], [list(line) for line in stars])
            self.is_just([end_behind(rule, x, ()) for x in range(n)], list(range(n)))

    def test_levels_by_ends(self):
        for rule in SMALL_RULES + [HIGH]:
            for m in range(5):
                same = all(len({plain_end(rule, a, kinds) for a in range(len(rule))}) == 1
                           for kinds in product(range(len(rule)), repeat=m))
                self.is_just(same, level(rule) is not None and level(rule) <= m)


class CertificateTests(Case):
    def test_judged(self):
        for rule in ALL + [plain_renamed(HIGH, p) for p in permutations(range(4))]:
            rules = plain_tower(rule)
            folds = tuple((other, plain_names(ahead)) for ahead, other in zip(rules, rules[1:]))
            for m in list(range(9)) + [30]:
                found = judge_level(rule, m)
                self.is_just(level_holds(rule, m, found), True)
                falls = plain_level(rule) is not None and plain_level(rule) <= m
                self.is_just(level_holds(rule, m, ("falls", folds)), falls)
                if falls:
                    self.is_just(found, ("falls", folds))
                else:
                    self.is_just([found[0], len(found), type(found[3]), len(found[3])], ["chains", 4, tuple, m])
                    self.assertNotEqual(*[plain_end(rule, kind, found[3]) for kind in found[1:3]])

    def test_all_chains(self):
        for rule in SMALL_RULES + [HIGH]:
            n = len(rule)
            for m, length in product(range(3 if n < 4 else 2), range(4 if n < 4 else 3)):
                for a, b in product(range(n), repeat=2):
                    for kinds in product(range(n), repeat=length):
                        wanted = m == length and plain_end(rule, a, kinds) != plain_end(rule, b, kinds)
                        self.is_just(level_holds(rule, m, ("chains", a, b, kinds)), wanted)

    def test_chains_of_eight(self):
        for rule in [STUCK, beside(STUCK, STUCK), beside(GUARD, STUCK)]:
            n = len(rule)
            for step in range(20):
                kinds = tuple((k * k * step + k + step) % n for k in range(8))
                ends = [plain_end(rule, kind, kinds) for kind in range(n)]
                for a, b in product(range(n), repeat=2):
                    self.is_just(level_holds(rule, 8, ("chains", a, b, kinds)), ends[a] != ends[b])
                    self.is_just(level_holds(rule, 7, ("chains", a, b, kinds)), False)

    def test_other_folds(self):
        pairs = ((CALM, (0, 0, 1)), (ONE, (0, 0)))
        for m in range(4):
            self.is_just(level_holds(GUARD, m, ("falls", pairs)), m >= 2)
            for wrong in [(), pairs[:1], pairs[1:], pairs[::-1], pairs + pairs[1:], ((ONE, (0, 0, 0)),), ((CALM, (0, 0, 1)), (ONE, (0, 0)), (ONE, (0,))),
                          ((BOTH, (0, 0, 1)), (ONE, (0, 0))), ((CALM, (1, 1, 0)), (ONE, (0, 0))), ((CALM, (0, 1, 1)), (ONE, (0, 0))),
                          ((CALM, (0, 0, True)), (ONE, (0, 0))), ((CALM, (0, 0, 1)), (ONE, (0, False))),
                          ((CALM, (0, 0, 1)), ((((False, 0),),), (0, 0))), [(CALM, (0, 0, 1)), (ONE, (0, 0))]]:
                self.says(False, level_holds, GUARD, m, ("falls", wrong))
        self.is_just([level_holds(ONE, m, ("falls", ())) for m in (0, 1, 8)], [True] * 3)
        self.is_just(level_holds(ONE, 5, ("falls", ((ONE, (0,)),))), False)
        self.is_just(level_holds(STUCK, 8, ("falls", ())), False)
        self.is_just(level_holds(STUCK, 8, ("falls", ((STUCK, (0, 1, 2, 3)),))), False)
        self.is_just(level_holds(BOTH, 8, ("falls", ((ONE, (0, 0)),))), True)

    def test_any_value(self):
        for rule, m in [(ONE, 0), (ONE, 2), (BOTH, 0), (BOTH, 1), (GUARD, 1), (GUARD, 2), (GUARD, 3), (STUCK, 0), (STUCK, 2), (HIGH, 3)]:
            right = judge_level(rule, m)
            for thing in list(spoiled(right)) + STRANGE + [("falls",), ("chains",), (), "falls", ("falls", [], ()), ("falls", None),
                                                          ("chains", 0, 0, ()), ("chains", 0, True, ()), ("chains", False, 1, ()),
                                                          ("chains", 0, 1, []), ("chains", 0, 1, None), ("chains", 0, 1, (), ()),
                                                          ("chains", 0, 1, (True,)), ("chains", "0", 1, ()), {"falls": ()}, ["falls", ()]]:
                self.says(plain_level_holds(rule, m, thing), level_holds, rule, m, thing)

    def test_errors(self):
        for rule in [ONE, GUARD, STUCK, shifted(8)]:
            n = len(rule)
            for m in WRONG_NUMBERS + [-1, -10 ** 30]:
                self.refuses(BadNumber, m, judge_level, rule, m)
                self.refuses(BadNumber, m, level_holds, rule, m, ("falls", ()))
                self.refuses(BadNumber, m, level_holds, rule, m, None)
            for row in wrong_rows(n):
                self.refuses(BadRow, row, folded_row, rule, row)
                self.refuses(BadRow, row, end_behind, rule, 0, row)
            for kind in wrong_kinds(n):
                self.refuses(BadKind, kind, end_behind, rule, kind, ())
                self.refuses(BadKind, kind, end_behind, rule, kind, None)
        self.refuses(BadNumber, DEEP, judge_level, m=DEEP, rule=GUARD)
        self.is_just(level_holds(BOTH, 10 ** 39, ("falls", ((ONE, (0, 0)),))), True)
        self.is_just(level_holds(STUCK, 10 ** 39, ("chains", 0, 1, (0,))), False)

    def test_wrong_rules(self):
        for rule in WRONG_RULES:
            for tell in (names_of, folded, tower, level):
                self.refuses(BadRule, rule, tell, rule)
            for tell in (folded_row, judge_level):
                self.refuses(BadRule, rule, tell, rule, ())
                self.refuses(BadRule, rule, tell, rule, 0)
            for tell in (end_behind, level_holds):
                self.refuses(BadRule, rule, tell, rule, 0, ())
                self.refuses(BadRule, rule, tell, rule, None, [None])


def plain_level_holds(rule, m, thing):
    """Whether any value is a certificate, by the words of the document."""
    if type(thing) is not tuple or not thing:
        return False
    rules = plain_tower(rule)
    folds = tuple((other, plain_names(ahead)) for ahead, other in zip(rules, rules[1:]))
    if repr(thing) == repr(("falls", folds)):
        return len(folds) <= m and len(rules[-1]) == 1
    if thing[0] != "chains" or len(thing) != 4 or type(thing[3]) is not tuple or len(thing[3]) != m:
        return False
    kinds = thing[1:3] + thing[3]
    if any(type(x) is not int or not 0 <= x < len(rule) for x in kinds):
        return False
    return plain_end(rule, thing[1], thing[3]) != plain_end(rule, thing[2], thing[3])
