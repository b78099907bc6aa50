"""Renamed rules and rows, least names, keeping permutations, renamings, and all rules of few kinds."""

from itertools import permutations, product
from math import factorial

from tests.samples import (BIG_RULES, BOTH, CALM, CYCLE, DEEP, GUARD, ONE, RULES, SIX_RULES, SMALL_RULES, STRANGE, STUCK, SWAP,
                           WRONG_RULES, Case, are_plainly_alike, beside, faults_of, plain_renamed, rows_of, shifted, spoiled,
                           wrong_rows)
from threesfit.errors import BadNames, BadRow, BadRule
from threesfit.naming import (all_rules, judge_named, keepings, least_name, many_named, named_holds, renamed, renamed_row,
                              renamings)
from threesfit.rules import is_rule
from threesfit.steps import full_turn

UP_TO_SIX = [rule for rule in RULES + SIX_RULES[:3] if len(rule) < 7]


def some_names(n):
    """Some permutations, all of them where there are few."""
    if n < 5:
        return list(permutations(range(n)))
    return [tuple((k * step + more) % n for k in range(n)) for step in (1, n - 1) for more in (0, 1, 3)] + [(1, 0) + tuple(range(2, n))]


def wrong_names(n):
    """Values that are no permutations of n kinds."""
    every = tuple(range(n))
    things = STRANGE + [every + (n,), every[1:], list(every), (), None, 0, "0" * n, (False,) + every[1:], every[:-1] + (str(n - 1),),
                        every[:-1] + (None,), (0,) * n if n > 1 else (1,), every[:-1] + (n,), every[:-1] + (-1,), {0: 0}, (every,), DEEP]
    return things + [thing for thing in spoiled(every) if not is_names(thing, n)]


def is_names(thing, n):
    return type(thing) is tuple and {type(part) for part in thing} == {int} and sorted(thing) == list(range(n))


class RenamedTests(Case):
    def test_renamed(self):
        for rule in RULES:
            for p in some_names(len(rule)):
                found = renamed(rule, p)
                self.is_just(found, plain_renamed(rule, p))
                self.is_just(is_rule(found), True)
                back = tuple(p.index(x) for x in range(len(p)))
                self.is_just(renamed(found, back), rule)
                for row in [(), (0,), tuple(k * k % len(rule) for k in range(60))]:
                    self.says(tuple(p[x] for x in row), renamed_row, rule, p, row)
            self.is_just(renamed(rule, tuple(range(len(rule)))), rule)
            self.is_just(renamed(rule, full_turn(rule)), rule)
        self.is_just(renamed(GUARD, (1, 2, 0)), (((0, 0), (2, 0), (1, 0)), ((0, 2), (1, 1), (2, 1)), ((0, 1), (1, 2), (2, 2))))
        self.is_just(renamed(names=(1, 2, 0), rule=GUARD), SWAP)
        self.is_just(renamed_row(row=(2, 0, 0), names=(1, 2, 0), rule=GUARD), (0, 1, 1))

    def test_alike_rows(self):
        for rule in [BOTH, GUARD, SWAP, CYCLE]:
            for p in some_names(len(rule)):
                other = renamed(rule, p)
                for one, two in product(rows_of(len(rule), 3), repeat=2):
                    rows = renamed_row(rule, p, one), renamed_row(rule, p, two)
                    self.is_just(are_plainly_alike(rule, one, two), are_plainly_alike(other, *rows))

    def test_errors(self):
        for rule in [ONE, BOTH, GUARD, STUCK, shifted(8)]:
            n = len(rule)
            for names in wrong_names(n):
                self.refuses(BadNames, names, renamed, rule, names)
                self.refuses(BadNames, names, renamed_row, rule, names, (0,))
                self.refuses(BadNames, names, renamed_row, rule, names, None)
            for row in wrong_rows(n):
                self.refuses(BadRow, row, renamed_row, rule, tuple(range(n)), row)
        for rule in WRONG_RULES:
            self.refuses(BadRule, rule, renamed, rule, (0,))
            self.refuses(BadRule, rule, renamed, rule, None)
            self.refuses(BadRule, rule, renamed_row, rule, (0,), (0,))
            self.refuses(BadRule, rule, renamed_row, rule, None, None)
            for tell in (least_name, keepings, many_named):
                self.refuses(BadRule, rule, tell, rule)
            for tell in (renamings, judge_named):
                self.refuses(BadRule, rule, tell, rule, CALM)
                self.refuses(BadRule, rule, tell, CALM, rule)
                self.refuses(BadRule, rule, tell, rule, [None])
            self.refuses(BadRule, rule, named_holds, rule, CALM, ("sizes",))
            self.refuses(BadRule, rule, named_holds, CALM, rule, ("sizes",))
            self.refuses(BadRule, rule, named_holds, rule, [None], None)


class LeastTests(Case):
    def test_least_names(self):
        for rule in UP_TO_SIX:
            n = len(rule)
            every = [plain_renamed(rule, p) for p in permutations(range(n))]
            self.is_just(least_name(rule), min(every))
            self.is_just(many_named(rule), len(set(every)))
            own = tuple(p for p, other in zip(permutations(range(n)), every) if other == rule)
            self.is_just(keepings(rule), own)
            self.is_just(factorial(n) // len(own), many_named(rule))
            for p in some_names(n)[:4]:
                self.is_just(least_name(renamed(rule, p)), min(every))
        self.is_just([least_name(rule=SWAP), many_named(rule=GUARD), keepings(rule=GUARD)], [GUARD, 3, ((0, 1, 2), (1, 0, 2))])

    def test_renamings(self):
        for one in UP_TO_SIX:
            n = len(one)
            for p in some_names(n)[:7]:
                other = renamed(one, p)
                wanted = tuple(q for q in permutations(range(n)) if plain_renamed(one, q) == other)
                self.assertIn(p, wanted)
                self.is_just(renamings(one, other), wanted)
        for one, other in product(UP_TO_SIX, repeat=2):
            found = renamings(one, other)
            same = len(one) == len(other) and least_name(one) == least_name(other)
            self.is_just((bool(found), type(found)), (same, tuple))
        self.is_just(renamings(SWAP, GUARD), ((2, 0, 1), (2, 1, 0)))
        self.is_just((renamings(CALM, BOTH), renamings(other=GUARD, one=CALM)), ((), ()))


class AllRulesTests(Case):
    def test_numbers_of_rules(self):
        for n, many in [(1, 1), (2, 2), (3, 5), (4, 23)]:
            found = all_rules(n)
            self.is_just([type(found), len(found), list(found) == sorted(found)], [tuple, many, True])
            self.assertEqual({faults_of(rule) == set() for rule in found}, {True})
            self.assertEqual({least_name(rule) == rule and len(rule) == n for rule in found}, {True})
            self.assertEqual(len(set(found)), many)
        self.is_just((all_rules(1), all_rules(size=2)), ((ONE,), (CALM, BOTH)))

    def test_all_tables_of_two_kinds(self):
        pairs = list(product(range(2), repeat=2))
        tables = [(cells[:2], cells[2:]) for cells in product(pairs, repeat=4)]
        rules = [table for table in tables if is_rule(table)]
        self.assertEqual({least_name(rule) for rule in rules}, set(all_rules(2)))
        self.assertEqual(len(rules), sum(many_named(rule) for rule in all_rules(2)))

    def test_rules_of_the_document(self):
        for rule in SMALL_RULES:
            self.assertIn(least_name(rule), all_rules(len(rule)))


class SizeTests(Case):
    def test_rules_of_eight_kinds(self):
        for rule in BIG_RULES[3:]:
            p = (3, 1, 4, 0, 5, 7, 2, 6)
            self.is_just(renamed(rule, p), plain_renamed(rule, p))
        self.is_just(many_named(beside(ONE, beside(ONE, beside(CALM, CALM)))), 1)
