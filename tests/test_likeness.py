"""Alike rows, certificates of likeness, and fewest meetings."""

from itertools import combinations, product

from tests.samples import (BIG_RULES, BOTH, DEEP, GUARD, ONE, RULES, SMALL_RULES, STRANGE, SWAP, WRONG_RULES, Case, beside,
                           distances_from, long_rows, met_at, plain_heap, rows_of, shifted, spoiled, wrong_rows)
from threesfit.errors import BadRow, BadRule, NotAlike
from threesfit.likeness import alike_holds, are_alike, distance, judge_alike
from threesfit.orders import order_of, row_of
from threesfit.rules import mirror


def row_behind(rule, row, places):
    for place in places:
        row = met_at(rule, row, place)
    return row


def plain_leads(rule, one, other, thing):
    """Whether any value is a certificate of meetings."""
    if type(thing) is not tuple or len(thing) != 2 or thing[0] != "meetings" or type(thing[1]) is not tuple:
        return False
    fits = all(type(place) is int and 0 <= place < len(one) - 1 for place in thing[1])
    return fits and row_behind(rule, one, thing[1]) == other


def plain_distance(order, other):
    """How many pairs of items stand in opposite orders, equal items being numbered from the left."""
    named, aims = [[(y, row[:k].count(y)) for k, y in enumerate(row)] for row in (order, other)]
    return sum(1 for a, b in combinations(named, 2) if aims.index(a) > aims.index(b))


def short_rows(rule):
    """All rows of a rule up to a length at which they can all be compared."""
    return list(rows_of(len(rule), {1: 6, 2: 4, 3: 3}.get(len(rule), 2)))


class JudgeTests(Case):
    def check(self, rule, one, other, wanted):
        """Check all that is said of two rows; wanted is their distance, or None."""
        found = judge_alike(rule, one, other)
        self.is_just(are_alike(rule, one, other), wanted is not None)
        self.is_just(alike_holds(rule, one, other, found), True)
        if wanted is None:
            self.is_just(found, ("heaps", plain_heap(rule, one), plain_heap(rule, other)))
            self.refuses_plainly(NotAlike, distance, rule, one, other)
            return
        self.is_just(distance(rule, one, other), wanted)
        name, places = found
        self.is_just((name, type(places), len(places)), ("meetings", tuple, wanted))
        self.assertTrue(all(type(place) is int and 0 <= place < len(one) - 1 for place in places))
        self.is_just(row_behind(rule, one, places), other)

    def test_all_short_rows(self):
        for rule in SMALL_RULES + BIG_RULES[:1]:
            rows = short_rows(rule)
            for one in rows:
                near = distances_from(rule, one)
                for other in rows:
                    self.check(rule, one, other, near.get(other))

    def test_whole_classes(self):
        for rule in RULES:
            n = len(rule)
            for row in [(0, n - 1, 0, n // 2, n - 1), (0, 0, 0, 0, n - 1, n - 1), tuple(k * k % n for k in range(6))]:
                for other, steps in distances_from(rule, row).items():
                    self.check(rule, row, other, steps)

    def test_all_alike_pairs_of_a_class(self):
        for rule in [BOTH, GUARD, SWAP]:
            for one in distances_from(rule, (0, 1, 1, 0, 1)):
                near = distances_from(rule, one)
                for other in near:
                    self.check(rule, one, other, near[other])

    def test_rows_of_unlike_lengths(self):
        for rule in RULES:
            for one, other in [((), (0,)), ((0,), ()), ((0, 0), (0, 0, 0)), ((0,) * 61, (0,) * 60)]:
                self.check(rule, one, other, None)
            self.check(rule, (), (), 0)

    def test_long_rows(self):
        for rule in RULES:
            for row in long_rows(len(rule))[:2]:
                order = order_of(rule, row)
                for aim in (sorted(order), sorted(order, reverse=True), order[::-1], order[30:] + order[:30], order):
                    steps = plain_distance(order, tuple(aim))
                    self.check(rule, row, row_of(rule, tuple(aim)), steps)
                self.check(rule, row, row[::-1], None if plain_heap(rule, row) != plain_heap(rule, row[::-1])
                           else plain_distance(order, order_of(rule, row[::-1])))

    def test_many_meetings(self):
        many = row_of(BOTH, (0,) * 30 + (1,) * 30), row_of(BOTH, (1,) * 30 + (0,) * 30)
        self.check(BOTH, many[0], many[1], 900)
        self.check(BOTH, many[1], many[0], 900)
        kinds = tuple(k for k in range(8) for _ in range(8))
        rule = shifted(8)
        self.check(rule, row_of(rule, kinds), row_of(rule, kinds[::-1]), 28 * 64)

    def test_both_directions(self):
        for rule in RULES:
            row = tuple(k * k % len(rule) for k in range(7))
            for other in sorted(distances_from(rule, row))[::7]:
                self.is_just(distance(rule, row, other), distance(rule, other, row))
                for one, two in ((row, other), (other, row)):
                    places = judge_alike(rule, one, two)[1]
                    self.is_just(alike_holds(rule, one, two, ("meetings", places)), True)
                    self.is_just(alike_holds(rule, two, one, ("meetings", places[::-1])), True)

    def test_rows_read_backwards(self):
        for rule in RULES:
            seen = mirror(rule)
            for one, other in product(short_rows(rule)[:24], repeat=2):
                self.is_just(are_alike(seen, one[::-1], other[::-1]), are_alike(rule, one, other))
            row = tuple(k * 3 % len(rule) for k in range(5))
            for other in distances_from(rule, row):
                self.is_just(distance(seen, row[::-1], other[::-1]), distance(rule, row, other))
                places = tuple(3 - place for place in judge_alike(rule, row, other)[1])
                self.is_just(alike_holds(seen, row[::-1], other[::-1], ("meetings", places)), True)


class HoldsTests(Case):
    def test_all_short_tuples_of_places(self):
        for rule in [ONE, BOTH, GUARD, SWAP]:
            for row in [(), (0,), (0, len(rule) - 1), (0, len(rule) - 1, len(rule) // 2)]:
                near = distances_from(rule, row)
                for other in list(near) + [tuple(k * 0 for k in row)]:
                    for places in rows_of(len(row) + 1, 3):
                        fits = all(place < len(row) - 1 for place in places)
                        wanted = fits and row_behind(rule, row, places) == other
                        self.says(wanted, alike_holds, rule, row, other, ("meetings", places))

    def test_very_many_places(self):
        for rule in RULES:
            row = tuple(k * k % len(rule) for k in range(60))
            self.is_just(alike_holds(rule, row, row, ("meetings", (7,) * 100000)), True)
            self.is_just(alike_holds(rule, row, met_at(rule, row, 7), ("meetings", (7,) * 99999)), True)
            places = tuple(k * 7 % 59 for k in range(2000))
            end = row_behind(rule, row, places)
            self.is_just(alike_holds(rule, row, end, ("meetings", places)), True)
            self.is_just(alike_holds(rule, end, row, ("meetings", places[::-1])), True)
            self.is_just(alike_holds(rule, row, end, ("meetings", places + (59,))), False)
            self.is_just(alike_holds(rule, row, end, ("meetings", places + (-1,))), False)
            self.is_just(alike_holds(rule, row, end, ("meetings", places[:-1] + (True,))), False)

    def test_places_of_short_rows(self):
        for row in [(), (0,)]:
            for places, wanted in [((), True), ((0,), False), ((-1,), False), ((-2,), False)]:
                self.is_just(alike_holds(BOTH, row, row, ("meetings", places)), wanted)
        self.is_just(alike_holds(BOTH, (0,), (1,), ("meetings", ())), False)
        self.is_just(alike_holds(BOTH, (), (1,), ("meetings", ())), False)

    def test_places_count_from_the_first_row(self):
        self.is_just(alike_holds(GUARD, (2, 0, 0), (1, 1, 2), ("meetings", (0, 1))), True)
        self.is_just(alike_holds(GUARD, (2, 0, 0), (1, 1, 2), ("meetings", (1, 0))), False)
        self.is_just(alike_holds(GUARD, (1, 1, 2), (2, 0, 0), ("meetings", (1, 0))), True)
        self.is_just(alike_holds(GUARD, (2, 0, 0), (1, 1, 2), ("meetings", (0, 1, 1, 0, 0, 1))), True)

    def test_heaps(self):
        for rule in [BOTH, GUARD, SWAP]:
            rows = list(rows_of(len(rule), 2))
            heaps = [plain_heap(rule, row) for row in rows]
            for (one, heap), (other, more) in product(zip(rows, heaps), repeat=2):
                self.is_just(alike_holds(rule, one, other, ("heaps", heap, more)), heap != more)
                self.is_just(alike_holds(rule, one, other, ("heaps", more, heap)), False)
                self.is_just(alike_holds(rule, one, other, ("heaps", heap, heap)), False)
                self.is_just(alike_holds(rule, one, other, ("heaps", (5, 5, 5)[:len(rule)], more)), False)

    def test_bools_in_heaps(self):
        self.is_just(alike_holds(BOTH, (0,), (1,), ("heaps", (1, 0), (0, 1))), True)
        for one, other in [((True, 0), (0, 1)), ((1, False), (0, 1)), ((1, 0), (False, 1)), ((1, 0), (0, True))]:
            self.is_just(alike_holds(BOTH, (0,), (1,), ("heaps", one, other)), False)

    def test_other_certificates(self):
        for one, other, right in [((0, 2), (2, 1), ("meetings", (0,))), ((0, 2), (2, 0), ("heaps", (1, 0, 1), (0, 1, 1))),
                                  ((), (), ("meetings", ())), ((2, 0, 0), (1, 1, 2), ("meetings", (0, 1)))]:
            self.is_just(alike_holds(GUARD, one, other, right), True)
            for thing in STRANGE + [DEEP, (), right[:1], right[1:], right + right, right + ((),), list(right), right[::-1]]:
                self.says(False, alike_holds, GUARD, one, other, thing)
            for thing in spoiled(right):
                self.says(plain_leads(GUARD, one, other, thing), alike_holds, GUARD, one, other, thing)
            for name in ("meetings", "heaps", "rest", None):
                for thing in STRANGE:
                    if (name, thing) != right:
                        self.says(False, alike_holds, GUARD, one, other, (name, thing))
                        self.says(False, alike_holds, GUARD, one, other, (name, thing, thing))
                        self.says(False, alike_holds, GUARD, one, other, (name, (0, 1, 1), thing))


class CallTests(Case):
    def test_by_name(self):
        rows = {"other": (1, 1, 2), "one": (2, 0, 0), "rule": GUARD}
        self.is_just(are_alike(**rows), True)
        self.is_just(judge_alike(**rows), ("meetings", (0, 1)))
        self.is_just(distance(**rows), 2)
        self.is_just(alike_holds(thing=("meetings", (0, 1)), **rows), True)

    def test_wrong_rules(self):
        for rule in WRONG_RULES:
            for tell in (are_alike, judge_alike, distance):
                self.refuses(BadRule, rule, tell, rule, (), ())
                self.refuses(BadRule, rule, tell, rule, None, [0])
            self.refuses(BadRule, rule, alike_holds, rule, (), (), ("meetings", ()))
            self.refuses(BadRule, rule, alike_holds, rule, None, [0], [])

    def test_wrong_rows(self):
        for rule in [ONE, BOTH, GUARD, beside(GUARD, SWAP), shifted(8)]:
            for row in wrong_rows(len(rule)):
                for tell in (are_alike, judge_alike, distance):
                    self.refuses(BadRow, row, tell, rule, row, (0,))
                    self.refuses(BadRow, row, tell, rule, (0,), row)
                    self.refuses(BadRow, row, tell, rule, row, ["other"])
                    self.refuses(BadRow, row, tell, other=row, one=(), rule=rule)
                self.refuses(BadRow, row, alike_holds, rule, row, (0,), ("heaps",))
                self.refuses(BadRow, row, alike_holds, rule, (0,), row, ("heaps",))
                self.refuses(BadRow, row, alike_holds, rule, row, [0], None)
