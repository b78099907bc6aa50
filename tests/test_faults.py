"""Certificates for tables: the word that a table is a rule, and its faults."""

from itertools import product

from tests.samples import (ALL_FAULTS, BOTH, CALM, GUARD, LEFT_AND_RIGHT, LEFT_AND_THREE, NO_RULES, ONLY_THREE, ONLY_TWICE,
                           RIGHT_AND_THREE, RULES, STRANGE, STUCK, WRONG_TABLES, Case, beside, faults_of, shifted, spoiled)
from threesfit.errors import BadTable
from threesfit.rules import is_rule, judge_rule, rule_holds

NAMES = ("rule", "twice", "left", "right", "three")


def tables_of_two_kinds():
    for pairs in product(product(range(2), repeat=2), repeat=4):
        yield (pairs[:2], pairs[2:])


def near_rules():
    """Tables that come from rules by another pair at one place, or by two pairs that are exchanged."""
    for rule in [GUARD, STUCK, beside(STUCK, STUCK), shifted(8)]:
        n = len(rule)
        for k in range(0, n * n, max(1, n * n // 9)):
            x, y = divmod(k, n)
            for pair in {(0, 0), (n - 1, 0), rule[y][x], (rule[x][y][0], (rule[x][y][1] + 1) % n)} - {rule[x][y]}:
                yield changed(rule, x, y, pair)


def changed(table, x, y, pair):
    line = table[x][:y] + (pair,) + table[x][y + 1:]
    return table[:x] + (line,) + table[x + 1:]


class JudgeTests(Case):
    def check(self, table, faults):
        found = judge_rule(table)
        self.is_just(is_rule(table), not faults)
        if faults:
            self.assertIn(found, faults)
            self.assertTrue(all(type(k) is int for k in found[1:]))
        else:
            self.is_just(found, ("rule",))
        self.is_just(rule_holds(table, found), True)

    def test_all_tables_of_two_kinds(self):
        for table in tables_of_two_kinds():
            self.check(table, faults_of(table))

    def test_tables_of_more_kinds(self):
        for table in RULES + NO_RULES + list(near_rules()):
            self.check(table, faults_of(table))

    def test_faults_of_one_kind(self):
        for table, names in [(ONLY_TWICE, {"twice"}), (ONLY_THREE, {"three"}), (LEFT_AND_RIGHT, {"left", "right"}),
                             (RIGHT_AND_THREE, {"right", "three"}), (LEFT_AND_THREE, {"left", "three"}),
                             (ALL_FAULTS, set(NAMES[1:]))]:
            self.assertEqual({fault[0] for fault in faults_of(table)}, names)
            self.assertIn(judge_rule(table)[0], names)

    def test_right_faults_never_stand_alone(self):
        for table in list(tables_of_two_kinds()) + list(near_rules()):
            self.assertNotEqual({fault[0] for fault in faults_of(table)}, {"right"})

    def test_calls(self):
        self.is_just(judge_rule(table=CALM), ("rule",))
        self.is_just(rule_holds(thing=("rule",), table=CALM), True)
        for table in WRONG_TABLES:
            self.refuses(BadTable, table, judge_rule, table)
            self.refuses(BadTable, table, rule_holds, table, ("rule",))
            self.refuses(BadTable, table, rule_holds, table, ("twice", 0, 0))


class HoldsTests(Case):
    def check_all(self, table):
        """Check all tuples of a name and up to four kinds."""
        faults = faults_of(table)
        if not faults:
            faults = {("rule",)}
        for many in range(5):
            for kinds in product(range(len(table)), repeat=many):
                for name in NAMES:
                    thing = (name,) + kinds
                    self.is_just(rule_holds(table, thing), thing in faults)

    def test_all_tables_of_two_kinds(self):
        for table in tables_of_two_kinds():
            self.check_all(table)

    def test_tables_of_three_kinds(self):
        for table in [GUARD, ONLY_THREE, changed(GUARD, 0, 2, (2, 2)), changed(GUARD, 2, 1, (1, 2)),
                      (((0, 0),) * 3,) * 3]:
            self.check_all(table)

    def test_each_fault_of_eight_kinds(self):
        table = changed(shifted(8), 3, 5, (0, 0))
        faults = faults_of(table)
        for name in NAMES[2:]:
            for kinds in product(range(8), repeat=3):
                self.is_just(rule_holds(table, (name,) + kinds), (name,) + kinds in faults)

    def test_lesser_kind_first(self):
        for name in ("left", "right"):
            self.is_just(rule_holds(LEFT_AND_RIGHT, (name, 0, 0, 1)), True)
            self.is_just(rule_holds(LEFT_AND_RIGHT, (name, 0, 1, 0)), False)
            self.is_just(rule_holds(LEFT_AND_RIGHT, (name, 0, 0, 0)), False)
        self.is_just([rule_holds(ONLY_TWICE, ("twice", 0, 1)), rule_holds(ONLY_TWICE, ("twice", 1, 0))], [True, True])

    def test_kinds_of_right_faults(self):
        table = (((0, 0), (0, 1)), ((1, 0), (1, 0)))
        self.is_just([rule_holds(table, ("right", 0, 0, 1)), rule_holds(table, ("right", 1, 0, 1))], [True, False])

    def test_strange_values(self):
        for table in [CALM, BOTH, ALL_FAULTS, LEFT_AND_RIGHT]:
            for thing in STRANGE + [()] + [(name, thing) for thing in STRANGE for name in NAMES]:
                self.is_just(rule_holds(table, thing), thing == ("rule",) and is_rule(table))

    def test_spoiled_certificates(self):
        for table in RULES:
            for thing in spoiled(("rule",)):
                self.is_just(rule_holds(table, thing), False)
        for table in NO_RULES:
            for fault in faults_of(table):
                self.is_just(rule_holds(table, fault), True)
                for thing in spoiled(fault):
                    self.is_just(rule_holds(table, thing), False)

    def test_kinds_of_another_size(self):
        for name in NAMES[1:]:
            for kinds in [(0, 2), (2, 0), (0, 0, 2), (2, 0, 1), (0, 2, 1), (0, -1, 1), (-1, 0, 1)]:
                self.is_just(rule_holds(ALL_FAULTS, (name,) + kinds), False)
