"""Tables, meetings, turns, rows that meet, and mirrors."""

from itertools import permutations, product

from tests.samples import (ALL_FAULTS, BOTH, CALM, GUARD, NO_RULES, ONE, RULES, STUCK, WRONG_RULES, WRONG_TABLES, Case,
                           met_at, shifted, spoiled, wrong_kinds, wrong_places, wrong_rows)
from threesfit.errors import BadKind, BadPlace, BadRow, BadTable
from threesfit.rules import is_rule, is_table, left_turn, meeting, met, mirror, right_turn
from threesfit.stars import is_stars, rule_of


class TableTests(Case):
    def test_tables(self):
        for n in range(1, 9):
            self.is_just(is_table(shifted(n)), True)
            self.is_just(is_table(tuple([((n - 1, 0),) * n] * n)), True)
        for table in RULES + NO_RULES:
            self.is_just(is_table(table), True)

    def test_no_tables(self):
        for thing in WRONG_TABLES:
            self.is_just(is_table(thing), False)
        self.is_just(is_table(shifted(9)), False)
        for table in [ONE, BOTH, GUARD, STUCK, shifted(8)]:
            for thing in spoiled(table):
                self.is_just(is_table(thing), False)

    def test_kinds_of_the_size(self):
        for n in range(1, 8):
            wrong = (((0, 0),) * (n - 1) + ((0, n),),) + (((0, 0),) * n,) * (n - 1)
            self.is_just(is_table(wrong), False)


class RuleTests(Case):
    def test_rules(self):
        for rule in RULES + [shifted(n) for n in range(1, 9)]:
            self.is_just(is_rule(rule), True)

    def test_no_rules(self):
        for thing in WRONG_RULES:
            self.is_just(is_rule(thing), False)
        for thing in spoiled(BOTH):
            self.is_just(is_rule(thing), False)

    def test_all_rules_of_few_kinds(self):
        pairs = list(product(range(2), repeat=2))
        found = [t for t in product(pairs, repeat=4) if is_rule((t[:2], t[2:]))]
        self.assertEqual(found, [CALM[0] + CALM[1], BOTH[0] + BOTH[1]])

    def test_five_rules_of_three_kinds_up_to_names(self):
        grids = product(permutations(range(3)), repeat=3)
        rules = [rule_of(grid) for grid in grids if is_stars(grid)]
        self.assertTrue(all(is_rule(rule) for rule in rules))
        names = set()
        for rule in rules:
            named = []
            for p in permutations(range(3)):
                back = [p.index(k) for k in range(3)]
                named.append(tuple(tuple((p[rule[back[x]][back[y]][0]], p[rule[back[x]][back[y]][1]])
                                         for y in range(3)) for x in range(3)))
            names.add(min(named))
        self.assertEqual((len(rules), len(names)), (12, 5))


class MeetingTests(Case):
    def test_meetings_and_turns(self):
        for table in RULES + NO_RULES:
            n = len(table)
            for x, y in product(range(n), repeat=2):
                self.is_just(meeting(table, x, y), table[x][y])
                self.is_just((left_turn(table, x)[y], right_turn(table, y)[x]), table[x][y])
            for x in range(n):
                self.is_just(left_turn(table, x), tuple(table[x][y][0] for y in range(n)))
                self.is_just(right_turn(table, x), tuple(table[y][x][1] for y in range(n)))

    def test_by_name(self):
        self.is_just(meeting(y=0, x=2, table=GUARD), (1, 2))
        self.is_just(left_turn(x=2, table=GUARD), (1, 0, 2))
        self.is_just(right_turn(y=2, table=GUARD), (1, 0, 2))
        self.is_just(right_turn(y=0, table=GUARD), (0, 1, 2))

    def test_wrong_tables(self):
        for table in WRONG_TABLES:
            self.refuses(BadTable, table, meeting, table, 0, 0)
            self.refuses(BadTable, table, meeting, table, None, None)
            self.refuses(BadTable, table, left_turn, table, 0)
            self.refuses(BadTable, table, left_turn, table, -1)
            self.refuses(BadTable, table, right_turn, table, 0)
            self.refuses(BadTable, table, right_turn, y=[], table=table)

    def test_wrong_kinds(self):
        for table in [ONE, GUARD, ALL_FAULTS]:
            for kind in wrong_kinds(len(table)):
                self.refuses(BadKind, kind, meeting, table, kind, 0)
                self.refuses(BadKind, kind, meeting, table, 0, kind)
                self.refuses(BadKind, kind, meeting, table, kind, ["other"])
                self.refuses(BadKind, kind, left_turn, table, kind)
                self.refuses(BadKind, kind, right_turn, table, kind)
                self.refuses(BadKind, kind, meeting, y=kind, x=0, table=table)


class MetTests(Case):
    def test_each_place(self):
        for table in RULES + NO_RULES:
            n = len(table)
            for row in [(0, n - 1), (n - 1, 0, n // 2), (0, 0, n - 1, n - 1), tuple(k * k % n for k in range(60)),
                        tuple((k * 5 + k // 7) % n for k in range(75))]:
                for place in range(len(row) - 1):
                    self.is_just(met(table, row, place), met_at(table, row, place))

    def test_by_name(self):
        self.is_just(met(place=1, row=(1, 2, 0), table=GUARD), (1, 1, 2))

    def test_wrong_tables(self):
        for table in WRONG_TABLES:
            self.refuses(BadTable, table, met, table, (0, 0), 0)
            self.refuses(BadTable, table, met, table, [0], None)

    def test_wrong_rows(self):
        for table in [ONE, GUARD, ALL_FAULTS, shifted(8)]:
            for row in wrong_rows(len(table)):
                self.refuses(BadRow, row, met, table, row, 0)
                self.refuses(BadRow, row, met, table, row, None)

    def test_wrong_places(self):
        for table in [ONE, GUARD, ALL_FAULTS]:
            for many in range(5):
                for place in wrong_places(max(many - 1, 0)):
                    self.refuses(BadPlace, place, met, table, (0,) * many, place)
        self.refuses(BadPlace, 59, met, GUARD, (0,) * 60, 59)


class MirrorTests(Case):
    def test_mirrors(self):
        for table in RULES + NO_RULES:
            n = len(table)
            seen = mirror(table)
            for a, b in product(range(n), repeat=2):
                c, d = table[b][a]
                self.is_just(seen[a][b], (d, c))
            self.is_just(mirror(seen), table)
            self.is_just(is_rule(seen), table in RULES)

    def test_rows_read_backwards(self):
        for table in RULES + NO_RULES:
            row = tuple(k * 3 % len(table) for k in range(5))
            for place in range(4):
                self.is_just(met(mirror(table), row[::-1], 3 - place), met(table, row, place)[::-1])

    def test_calls(self):
        self.is_just(mirror(table=LOPSIDED), (((1, 1), (0, 0)), ((1, 0), (0, 1))))
        for table in WRONG_TABLES:
            self.refuses(BadTable, table, mirror, table)


LOPSIDED = (((1, 1), (0, 1)), ((0, 0), (1, 0)))
