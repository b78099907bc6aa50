"""Two-sums, their faults and certificates, inner turns, and the rules that come from them."""

from itertools import permutations, product

from tests.samples import (CALM, CYCLE, DEEP, GUARD, ONE, RULES, SIX_RULES, SMALL_RULES, STRANGE, STUCK, STUCK_TOO, WRONG_RULES,
                           Case, beside, class_of, led, rows_of, shifted, spoiled, wrong_kinds, wrong_rows)
from threesfit.errors import BadKind, BadNames, BadRow, BadRule, BadTwoSum, TooLong
from threesfit.folding import folded
from threesfit.orders import order_of
from threesfit.parting import lots
from threesfit.rules import is_rule, left_turn
from threesfit.turns import turn_sum, turns_of
from threesfit.twosums import (all_twosums, folded_twosum, inner_turn, is_twosum, judge_twosum, least_twosum, renamed_twosum,
                               round_of_row, rule_of_twosum, still_part, twosum_holds, twosum_of_turns, twosum_renamings)


def remainders(m):
    """The two-sum in which sums and round products are remainders of sums."""
    table = tuple(tuple((a + b) % m for b in range(m)) for a in range(m))
    return table, table


def put_together(one, other):
    """The two-sum of pairs of numbers of two two-sums."""
    n, m = len(one[0]), len(other[0])

    def table(first, last):
        return tuple(tuple(first[a // m][b // m] * m + last[a % m][b % m] for b in range(n * m)) for a in range(n * m))

    return table(one[0], other[0]), table(one[1], other[1])


SINGLE = (((0,),), ((0,),))
PAIR = remainders(2)
FOUR = (remainders(4)[0], tuple(tuple((a + b * (-1) ** a) % 4 for b in range(4)) for a in range(4)))
SMALL = [twosum for m in range(1, 7) for twosum in all_twosums(m)]
TWOSUMS = SMALL + [remainders(7), remainders(8), put_together(FOUR, PAIR), twosum_of_turns(STUCK), twosum_of_turns(STUCK_TOO)]


# Groups of four and of six numbers: the first one is no round product for the remainders, the other one does not turn.
OTHER_FOUR = tuple(tuple((0, 2, 1, 3)[((0, 2, 1, 3)[a] + (0, 2, 1, 3)[b]) % 4] for b in range(4)) for a in range(4))
ORDERS = list(permutations(range(3)))
SIX = tuple(tuple(ORDERS.index(tuple(one[y] for y in two)) for two in ORDERS) for one in ORDERS)


def plain_faults(pair):
    """All faults of a pair of tables, by the words of the document."""
    plus, times = pair
    m = len(plus)
    found = set()
    for a in range(m):
        found |= {("plus 0", a)} if plus[0][a] != a else set()
        found |= {("round 0", a)} if times[0][a] != a else set()
        found |= {("no minus", a)} if all(plus[a][n] != 0 for n in range(m)) else set()
        found |= {("no back", a)} if all(times[b][a] != 0 for b in range(m)) else set()
    missing = any(fault[0] == "no minus" for fault in found)
    for a, b in product(range(m), repeat=2):
        found |= {("turned", a, b)} if plus[a][b] != plus[b][a] else set()
    for a, b, c in product(range(m), repeat=3):
        found |= {("plus", a, b, c)} if plus[a][plus[b][c]] != plus[plus[a][b]][c] else set()
        found |= {("round", a, b, c)} if times[a][times[b][c]] != times[times[a][b]][c] else set()
        if not missing:
            ends = {plus[plus[times[a][b]][n]][times[a][c]] for n in range(m) if plus[a][n] == 0}
            found |= {("both", a, b, c)} if ends != {times[a][plus[b][c]]} else set()
    return found


def all_of_the_form(m):
    """All tuples that could be faults of tables of the size m."""
    for name, many in [("turned", 2), ("plus", 3), ("round", 3), ("plus 0", 1), ("round 0", 1), ("no minus", 1), ("no back", 1),
                       ("both", 3), ("other", 1), ("other", 2), (None, 3)]:
        yield from ((name,) + numbers for numbers in product(range(m), repeat=many))


def spoiled_tables(pair):
    """Pairs of tables that come from one by another number at one place."""
    for k, table in enumerate(pair):
        for a, line in enumerate(table):
            for b, number in enumerate(line):
                for other in range(len(table)):
                    if other != number:
                        new = table[:a] + (line[:b] + (other,) + line[b + 1:],) + table[a + 1:]
                        yield (new, pair[1]) if k == 0 else (pair[0], new)


def mixed_pairs():
    """Pairs of small tables, with and without faults."""
    tables = [tuple(zip(*[iter(cells)] * 2)) for cells in product(range(2), repeat=4)]
    yield from product(tables, repeat=2)
    threes = [tuple(tuple((a * k + b * more + step) % 3 for b in range(3)) for a in range(3))
              for k, more, step in product(range(3), repeat=3)]
    yield from list(product(threes, repeat=2))[::5]
    for pair in [remainders(3), FOUR, all_twosums(4)[1]]:
        yield from list(spoiled_tables(pair))[::3]
    yield remainders(4)[0], OTHER_FOUR
    yield SIX, SIX
    yield remainders(3)[0], ((0, 1, 2), (1, 0, 2), (2, 1, 0))
    for p in permutations(range(3)):
        yield tuple(tuple(p[b] for b in range(3)) for a in range(3)), remainders(3)[0]
        yield remainders(3)[0], tuple(tuple(p[(a + b) % 3] for b in range(3)) for a in range(3))


class FaultTests(Case):
    def test_all_faults(self):
        for pair in mixed_pairs():
            m = len(pair[0])
            faults = plain_faults(pair)
            for thing in all_of_the_form(m):
                self.is_just(twosum_holds(pair, thing), thing in faults)
            self.check_judged(pair, faults)

    def check_judged(self, pair, faults):
        found = judge_twosum(pair)
        self.is_just(twosum_holds(pair, found), True)
        self.is_just(is_twosum(pair), not faults)
        if faults:
            self.assertIn(found, faults)
        else:
            m = len(pair[0])
            minus = tuple(pair[0][a].index(0) for a in range(m))
            back = tuple([pair[1][b][a] for b in range(m)].index(0) for a in range(m))
            self.is_just(found, ("sums", minus, back))

    def test_twosums(self):
        for twosum in TWOSUMS:
            self.check_judged(twosum, plain_faults(twosum))
            self.says(True, is_twosum, twosum)
            for thing in list(all_of_the_form(len(twosum[0])))[::7]:
                self.is_just(twosum_holds(twosum, thing), False)

    def test_each_kind_of_fault_is_found(self):
        first = {judge_twosum(pair)[0] for pair in mixed_pairs()}
        alone = {}
        for pair in mixed_pairs():
            kinds = {fault[0] for fault in plain_faults(pair)}
            if len(kinds) == 1:
                alone[min(kinds)] = judge_twosum(pair)[0]
        self.assertEqual({name: name for name in alone}, alone)
        self.assertLessEqual({"turned", "round", "plus 0", "round 0", "no back", "no minus", "both"}, set(alone))
        self.assertLessEqual({"turned", "plus", "round", "plus 0", "round 0", "no back", "no minus", "both", "sums"}, first)

    def test_single_faults(self):
        # Minimum as the sum has no minus; the greater number as the round product has no back; and so on.
        least = tuple(tuple(min(a, b) if 0 not in (a, b) else max(a, b) for b in range(3)) for a in range(3))
        self.check_judged((least, remainders(3)[0]), plain_faults((least, remainders(3)[0])))
        greater = tuple(tuple(max(a, b) for b in range(3)) for a in range(3))
        self.is_just(judge_twosum((remainders(3)[0], greater))[0], "no back")
        self.is_just(judge_twosum((greater, remainders(3)[0]))[0], "no minus")
        self.is_just(judge_twosum((remainders(4)[0], OTHER_FOUR))[0], "both")
        self.assertEqual({fault[0] for fault in plain_faults((SIX, SIX))}, {"turned"})

    def test_more_than_one_minus(self):
        plus = ((0, 1, 2), (1, 0, 0), (2, 0, 0))
        for times in [remainders(3)[0], plus, ((0, 1, 2), (1, 1, 2), (2, 0, 1))]:
            faults = plain_faults((plus, times))
            for thing in all_of_the_form(3):
                self.is_just(twosum_holds((plus, times), thing), thing in faults)

    def test_any_value_as_certificate(self):
        pairs = [SINGLE, PAIR, FOUR, (((0, 1), (1, 1)), ((0, 1), (1, 0))), (remainders(3)[0], ((0, 1, 2), (1, 1, 2), (2, 0, 1)))]
        for pair in pairs:
            right = judge_twosum(pair)
            rights = {repr(fault) for fault in plain_faults(pair)} or {repr(right)}
            things = list(spoiled(right)) + STRANGE + [("sums",), ("sums", ()), ("sums", (), ()), (), "sums", ["sums", (0,), (0,)], ("both", 0, 0),
                                                      ("turned", 0), ("turned", 0, 0, 0), ("plus", 0), ("round", 0, 0), ("plus 0",), ("no minus", True),
                                                      ("no minus", 0, 0), ("no back", "0"), ("round 0", None), ("both", 0, 0, 0, 0), ("both", False, 0, 0),
                                                      ("plus 0", False), ("plus 0", -1), ("plus 0", len(pair[0])), {"sums": ()}, (None, 0), ((), 0, 0, 0),
                                                      right + (0,), list(right), ("turned", True, 0), ("turned", [0], 1)]
            for thing in things:
                self.says(repr(thing) in rights, twosum_holds, pair, thing)
        self.is_just(twosum_holds(SINGLE, ("sums", (False,), (0,))), False)
        self.is_just(twosum_holds(SINGLE, ("sums", (0,), (0,))), True)
        self.is_just(twosum_holds(FOUR, ("sums", (0, 3, 2, 1), (0, 3, 2, 1))), False)
        self.is_just(twosum_holds(thing=("no minus", 1), pair=(((0, 1), (1, 1)), ((0, 1), (1, 0)))), True)
        self.is_just(judge_twosum(pair=SINGLE), ("sums", (0,), (0,)))


def wrong_twosums():
    """Values that are no two-sums."""
    nine = remainders(9)
    table = remainders(2)[0]
    spoilt = [thing for thing in spoiled(PAIR) if repr(thing) != repr(PAIR)]
    return STRANGE + spoilt + [nine, (table,), (table, table, table), [table, table], (table, list(table)), (table, remainders(3)[0]),
                               (table, ((0, 1, 0), (1, 0, 0), (0, 0, 0))), (((0, 1, 0), (1, 0, 0), (0, 0, 0)), table),
                               ((table[0], list(table[1])), table), (((0, 1), (1, False)), table), (table, ((0, True), (1, 0))),
                               (((0, 1), (1, 2)), table), (table, ((0, 1), (1, -1))), ((), ()), (((),), ((),)), (0, 0), None,
                               (((0, 1), (1, 1)), table), (table, ((0, 1), (1, 1))), (table, ((0, 0), (0, 0))), CALM, GUARD, DEEP,
                               (remainders(4)[0], remainders(4)[0][::-1]), {0: table, 1: table}, "00"]


class TwoSumTests(Case):
    def test_any_value(self):
        for thing in wrong_twosums():
            self.says(False, is_twosum, thing)
            for tell in (still_part, folded_twosum, rule_of_twosum, least_twosum):
                self.refuses(BadTwoSum, thing, tell, thing)
            self.refuses(BadTwoSum, thing, inner_turn, thing, 0)
            self.refuses(BadTwoSum, thing, inner_turn, thing, None)
            self.refuses(BadTwoSum, thing, round_of_row, thing, (0,))
            self.refuses(BadTwoSum, thing, round_of_row, thing, None)
            self.refuses(BadTwoSum, thing, renamed_twosum, thing, (0, 1))
            self.refuses(BadTwoSum, thing, renamed_twosum, thing, None)
            self.refuses(BadTwoSum, thing, twosum_renamings, thing, PAIR)
            self.refuses(BadTwoSum, thing, twosum_renamings, PAIR, thing)
            self.refuses(BadTwoSum, thing, twosum_renamings, thing, [None])
        self.is_just(is_twosum(thing=FOUR), True)

    def test_inner_turns(self):
        for twosum in TWOSUMS:
            plus, times = twosum
            m = len(plus)
            turns = [inner_turn(twosum, a) for a in range(m)]
            for a, b in product(range(m), repeat=2):
                self.is_just(plus[a][turns[a][b]], times[a][b])
                self.is_just(turns[times[a][b]], tuple(turns[a][turns[b][c]] for c in range(m)))
                for c in range(m):
                    self.is_just(turns[a][plus[b][c]], plus[turns[a][b]][turns[a][c]])
            part = still_part(twosum)
            self.is_just(part, tuple(a for a in range(m) if turns[a] == tuple(range(m))))
            self.is_just(len(set(turns)) * len(part), m)
            for a, b in product(part, range(m)):
                self.is_just(plus[a][b], times[a][b])
            for a in wrong_kinds(m):
                self.refuses(BadKind, a, inner_turn, twosum, a)
        self.is_just((inner_turn(a=1, twosum=FOUR), still_part(twosum=FOUR)), ((0, 3, 2, 1), (0, 2)))

    def test_folded(self):
        for twosum in TWOSUMS:
            plus, times = twosum
            m = len(plus)
            turns = [inner_turn(twosum, a) for a in range(m)]
            firsts = [a for a in range(m) if turns.index(turns[a]) == a]
            names = [firsts.index(turns.index(turns[a])) for a in range(m)]
            found = folded_twosum(twosum)
            self.is_just((is_twosum(found), len(found[0])), (True, len(firsts)))
            minus = judge_twosum(twosum)[1]
            for a, b in product(range(m), repeat=2):
                self.is_just(found[0][names[a]][names[b]], names[plus[a][b]])
                self.is_just(found[1][names[a]][names[b]], names[times[a][b]])
                self.is_just(names[a] == names[b], plus[a][minus[b]] in still_part(twosum))
            self.is_just(tuple(a for a in range(m) if names[a] == 0), still_part(twosum))
        self.is_just(folded_twosum(twosum=FOUR), PAIR)

    def test_rules(self):
        for twosum in TWOSUMS:
            plus, times = twosum
            m = len(plus)
            rule = rule_of_twosum(twosum)
            self.is_just(is_rule(rule), True)
            for a, b in product(range(m), repeat=2):
                u, v = rule[a][b]
                self.is_just((u, inner_turn(twosum, u)[v]), (inner_turn(twosum, a)[b], a))
                self.is_just(times[u][v], times[a][b])
            for a in range(m):
                self.is_just(left_turn(rule, a), inner_turn(twosum, a))
            self.is_just(lots(rule)[0], (0,))
            self.is_just(folded(rule), rule_of_twosum(folded_twosum(twosum)))
        self.is_just(rule_of_twosum(twosum=PAIR), CALM)

    def test_round_products_of_rows(self):
        for twosum in TWOSUMS:
            plus, times = twosum
            m = len(plus)
            rule = rule_of_twosum(twosum)
            for row in list(rows_of(m, 2)) + [tuple((k * k * step + k) % m for k in range(60)) for step in range(4)]:
                wanted = total = 0
                for a in row:
                    wanted = times[wanted][a]
                for a in order_of(rule, row):
                    total = plus[total][a]
                self.says(wanted, round_of_row, twosum, row)
                self.is_just(wanted, total)
            for row in [(m - 1, 0, m // 2), (m - 1, m // 2, 0, m - 1)]:
                self.assertEqual({round_of_row(twosum, other) for other in class_of(rule, row)}, {round_of_row(twosum, row)})
            for row in wrong_rows(m):
                self.refuses(BadRow, row, round_of_row, twosum, row)
        self.is_just((round_of_row(row=(1, 1, 2), twosum=FOUR), round_of_row(FOUR, ())), (2, 0))


class TurnsTests(Case):
    def test_twosums_of_turns(self):
        for rule in RULES + SIX_RULES:
            turns = turns_of(rule)
            if len(turns) > 8:
                self.refuses_plainly(TooLong, twosum_of_turns, rule)
                continue
            found = twosum_of_turns(rule)
            self.is_just((is_twosum(found), len(found[0])), (True, len(turns)))
            for a, b in product(range(len(turns)), repeat=2):
                self.is_just(turns[found[1][a][b]], tuple(turns[a][y] for y in turns[b]))
                self.is_just(turns[found[0][a][b]], turn_sum(rule, turns[a], turns[b]))
        self.is_just([twosum_of_turns(GUARD), twosum_of_turns(rule=ONE), len(twosum_of_turns(shifted(8))[0])], [PAIR, SINGLE, 8])
        self.refuses_plainly(TooLong, twosum_of_turns, beside(shifted(3), shifted(3)))
        self.refuses_plainly(TooLong, twosum_of_turns, beside(STUCK, STUCK_TOO))
        for rule in WRONG_RULES:
            self.refuses(BadRule, rule, twosum_of_turns, rule)

    def test_folding_by_turns(self):
        for twosum in TWOSUMS:
            found = twosum_of_turns(rule_of_twosum(twosum))
            other = folded_twosum(twosum)
            self.assertGreater(len(twosum_renamings(found, other)), 0)

    def test_numbers_of_turns(self):
        for rule in SMALL_RULES + [led((1, 2, 3, 4, 5, 6, 7, 0)), beside(CYCLE, CALM)]:
            self.is_just(len(twosum_of_turns(rule)[0]), len(turns_of(rule)))


def all_names(m):
    return [(0,) + p for p in permutations(range(1, m))]


def plain_renamed(twosum, p):
    """The pair of tables in which p[a] and p[b] have what a and b have, renamed."""
    m = len(p)
    back = [p.index(a) for a in range(m)]
    return tuple(tuple(tuple(p[table[back[a]][back[b]]] for b in range(m)) for a in range(m)) for table in twosum)


class NameTests(Case):
    def test_renamed(self):
        for twosum in TWOSUMS:
            m = len(twosum[0])
            for p in all_names(m)[::max(1, m * m * m // 20)]:
                found = renamed_twosum(twosum, p)
                self.is_just(found, plain_renamed(twosum, p))
                self.is_just(is_twosum(found), True)
                for table, other in zip(twosum, found):
                    for a, b in product(range(m), repeat=2):
                        self.is_just(other[p[a]][p[b]], p[table[a][b]])
            for names in wrong_names(m):
                self.refuses(BadNames, names, renamed_twosum, twosum, names)
        self.is_just(renamed_twosum(names=(0, 2, 1, 3), twosum=FOUR), plain_renamed(FOUR, (0, 2, 1, 3)))

    def test_least_names(self):
        for twosum in SMALL + [remainders(7), renamed_twosum(remainders(7), (0, 3, 1, 6, 2, 5, 4))]:
            m = len(twosum[0])
            every = [plain_renamed(twosum, p) for p in all_names(m)]
            self.is_just(least_twosum(twosum), min(every))
            other = every[len(every) // 2]
            self.is_just(twosum_renamings(twosum, other), tuple(p for p, new in zip(all_names(m), every) if new == other))
        self.is_just(least_twosum(twosum=plain_renamed(FOUR, (0, 3, 1, 2))), least_twosum(FOUR))
        self.is_just(twosum_renamings(other=PAIR, one=SINGLE), ())
        self.is_just(twosum_renamings(PAIR, FOUR), ())

    def test_renamings(self):
        for one, other in product(SMALL, repeat=2):
            self.is_just(bool(twosum_renamings(one, other)), one == other)
        self.is_just(twosum_renamings(remainders(4), remainders(4)), ((0, 1, 2, 3), (0, 3, 2, 1)))

    def test_all_twosums(self):
        for m, many in [(1, 1), (2, 1), (3, 1), (4, 4), (5, 1), (6, 2), (7, 1)]:
            found = all_twosums(m)
            self.is_just([type(found), len(found), list(found) == sorted(set(found))], [tuple, many, True])
            for twosum in found:
                self.is_just((plain_faults(twosum), len(twosum[0]), least_twosum(twosum)), (set(), m, twosum))
        for twosum in [FOUR, remainders(4), put_together(PAIR, PAIR), twosum_of_turns(shifted(4))]:
            self.assertIn(least_twosum(twosum), all_twosums(4))
        self.is_just(all_twosums(size=2), (PAIR,))

    def test_all_pairs_of_two_and_three_numbers(self):
        tables = [tuple(zip(*[iter(cells)] * 2)) for cells in product(range(2), repeat=4)]
        self.assertEqual([pair for pair in product(tables, repeat=2) if is_twosum(pair)], [PAIR])
        lines = list(product(range(3), repeat=3))
        # Sums of 0 and a are a, so the first line is known, and the first column of the sums, too.
        sums = [((0, 1, 2), (1,) + one, (2,) + two) for one, two in product(product(range(3), repeat=2), repeat=2)]
        rounds = [((0, 1, 2), one, two) for one, two in product(lines, repeat=2)]
        sums = [table for table in sums if not {fault[0] for fault in plain_faults((table, table))} & {"plus", "turned", "no minus"}]
        found = {pair for pair in product(sums, rounds) if is_twosum(pair)}
        self.assertEqual({least_twosum(pair) for pair in found}, set(all_twosums(3)))


def wrong_names(m):
    """Values that are no permutations of m numbers with 0 first."""
    every = tuple(range(m))
    things = STRANGE + [every + (m,), every[1:], list(every), (), None, 0, (False,) + every[1:], every[:-1] + (str(m - 1),), (every,), DEEP]
    things += [every[1:] + (0,), every[::-1], (0,) * m, every[:-1] + (m,)] if m > 1 else [(1,), (0, 0)]
    return things + [thing for thing in spoiled(every) if not is_names(thing, m)]


def is_names(thing, m):
    return type(thing) is tuple and {type(part) for part in thing} == {int} and sorted(thing) == list(range(m)) and thing[0] == 0
