"""Rows that divide others, rests, and their certificates."""

from itertools import product

from tests.samples import (BOTH, DEEP, GUARD, ONE, RULES, SMALL_RULES, STRANGE, SWAP, WRONG_RULES, Case, beside, class_of,
                           long_rows, plain_heap, rows_of, shifted, spoiled, wrong_rows)
from threesfit.dividing import (common_divisor, common_multiple, complement, divides, divides_holds, divides_right,
                                judge_divides, rest, rest_right)
from threesfit.errors import BadRow, BadRule, NoRest
from threesfit.likeness import are_alike
from threesfit.motions import motion_of
from threesfit.orders import first_row, right_heap, row_of

TELLS = (divides, divides_right, judge_divides, rest, rest_right, common_multiple, common_divisor, complement)


def most_items(rule):
    return {1: 5, 2: 4, 3: 3}.get(len(rule), 2)


def rests_of(rule, one, other):
    """All rests from the left and all rests from the right, by the words of the document."""
    behind = {row[len(one):] for row in class_of(rule, other) if row[:len(one)] == one}
    ahead = {row[:len(row) - len(one)] for row in class_of(rule, other) if row[len(row) - len(one):] == one}
    return (behind, ahead) if len(one) <= len(other) else (set(), set())


def is_nowhere_greater(one, other):
    return all(one[k] <= other[k] for k in range(len(one)))


class DividesTests(Case):
    def check_left(self, rule, one, other, rests):
        self.is_just(divides(rule, one, other), bool(rests))
        heap, more = plain_heap(rule, one), plain_heap(rule, other)
        self.is_just(is_nowhere_greater(heap, more), bool(rests))
        found = judge_divides(rule, one, other)
        self.is_just(divides_holds(rule, one, other, found), True)
        if rests:
            self.is_just(rest(rule, one, other), min(rests))
            self.assertIn(found, {("rest", row) for row in rests})
            self.assertEqual(class_of(rule, min(rests)), rests)
        else:
            self.refuses_plainly(NoRest, rest, rule, one, other)
            self.is_just((found[0], type(found[1]), len(found)), ("kind", int, 2))
            self.assertGreater(heap[found[1]], more[found[1]])

    def check_right(self, rule, one, other, rests):
        self.is_just(divides_right(rule, one, other), bool(rests))
        self.is_just(is_nowhere_greater(right_heap(rule, one), right_heap(rule, other)), bool(rests))
        if rests:
            self.is_just(rest_right(rule, one, other), min(rests))
            self.assertEqual(class_of(rule, min(rests)), rests)
        else:
            self.refuses_plainly(NoRest, rest_right, rule, one, other)

    def test_all_short_rows(self):
        for rule in SMALL_RULES + [beside(BOTH, GUARD)]:
            rows = list(rows_of(len(rule), most_items(rule)))
            for one, other in product(rows, repeat=2):
                alike = class_of(rule, one)
                if one == min(alike):
                    behind, ahead = (set(), set())
                    for row in alike:
                        more = rests_of(rule, row, other)
                        behind, ahead = behind | more[0], ahead | more[1]
                    for row in alike:
                        self.check_left(rule, row, other, behind)
                        self.check_right(rule, row, other, ahead)

    def test_rows_of_six_items(self):
        for rule in RULES:
            n = len(rule)
            other = tuple((k * k + 1) % n for k in range(6))
            for row in sorted(class_of(rule, other))[::11]:
                for many in range(7):
                    left, right = row[:many], row[6 - many:]
                    self.check_left(rule, left, other, class_of(rule, row[many:]))
                    self.check_right(rule, right, other, class_of(rule, row[:6 - many]))

    def test_the_empty_row_and_itself(self):
        for rule in RULES:
            for row in list(rows_of(len(rule), 1)) + long_rows(len(rule)):
                first = first_row(rule, plain_heap(rule, row))
                for tell in (divides, divides_right):
                    self.is_just((tell(rule, (), row), tell(rule, row, row)), (True, True))
                    self.is_just(tell(rule, row, ()), row == ())
                for tell in (rest, rest_right):
                    self.is_just((tell(rule, (), row), tell(rule, row, row)), (first, ()))

    def test_long_rows(self):
        for rule in RULES:
            n = len(rule)
            for row in long_rows(n)[:2]:
                order = tuple(sorted(k % n for k in range(len(row))))
                other = row_of(rule, order)
                same = row_of(rule, order[::-1])
                for many in (1, 29, 59, len(row)):
                    found = rest(rule, same[:many], other)
                    self.is_just(are_alike(rule, same[:many] + found, other), True)
                    self.is_just(first_row(rule, plain_heap(rule, found)), found)
                    found = rest_right(rule, same[many:], other)
                    self.is_just(are_alike(rule, found + same[many:], other), True)
                    self.is_just(first_row(rule, plain_heap(rule, found)), found)
                self.is_just((divides(rule, row + (0,), row), divides_right(rule, (0,) + row, row)), (False, False))

    def test_the_heap_of_rests(self):
        for rule in RULES:
            row = long_rows(len(rule))[0]
            for many in (0, 1, 7, 30, 60):
                heap, turn = motion_of(rule, row[:many])
                more = plain_heap(rule, row)
                wanted = tuple(more[turn[y]] - heap[turn[y]] for y in range(len(rule)))
                self.is_just(plain_heap(rule, rest(rule, row[:many], row)), wanted)

    def test_sides_differ(self):
        self.is_just((divides(GUARD, (0,), (2, 0)), divides_right(GUARD, (0,), (2, 0))), (False, True))
        self.is_just((divides(GUARD, (1,), (2, 0)), divides_right(GUARD, (1,), (2, 0))), (True, False))
        self.is_just((rest(GUARD, (1,), (2, 0)), rest_right(GUARD, (0,), (2, 0))), ((2,), (2,)))


class HoldsTests(Case):
    def test_all_certificates(self):
        for rule in [ONE, BOTH, GUARD, SWAP]:
            n = len(rule)
            rows = list(rows_of(n, 2))
            for one, other in product(rows, rows + [(0, n - 1, 0), (n - 1,) * 3]):
                heap, more = plain_heap(rule, one), plain_heap(rule, other)
                alike = class_of(rule, other)
                for row in rows_of(n, 3):
                    self.is_just(divides_holds(rule, one, other, ("rest", row)), one + row in alike)
                for x in range(n):
                    self.is_just(divides_holds(rule, one, other, ("kind", x)), heap[x] > more[x])
                for x in (-1, -2, n, n + 1, True, False, 10 ** 39, (0,)):
                    self.is_just(divides_holds(rule, one, other, ("kind", x)), False)

    def test_each_rest_of_a_long_row(self):
        for rule in RULES:
            row = long_rows(len(rule))[0]
            found = rest(rule, row[:53], row)
            for other in class_of(rule, row[53:]):
                self.is_just(divides_holds(rule, row[:53], row, ("rest", other)), True)
                self.is_just(divides_holds(rule, row[:53], row, ("rest", other + (0,))), False)
                self.is_just(divides_holds(rule, row[:53], row, ("rest", list(other))), False)
            self.assertIn(found, class_of(rule, row[53:]))
            self.is_just(divides_holds(rule, row[:53], row, ("rest", found)), True)
            self.is_just(divides_holds(rule, row[:53], row, ("rest", (0,) * 2000)), False)

    def test_other_certificates(self):
        for one, other, right in [((1,), (2, 0, 0), ("rest", (1, 2))), ((0,), (2, 0), ("kind", 0)), ((), (), ("rest", ()))]:
            self.is_just(divides_holds(GUARD, one, other, right), True)
            for thing in STRANGE + [DEEP, (), right[:1], right[1:], right + right, right + (0,), list(right), right[::-1]]:
                self.says(False, divides_holds, GUARD, one, other, thing)
            for thing in spoiled(right):
                self.says(False, divides_holds, GUARD, one, other, thing)
            for name in ("rest", "kind", "meetings", None, "Rest"):
                for thing in STRANGE:
                    self.says(False, divides_holds, GUARD, one, other, (name, thing))


class CallTests(Case):
    def test_by_name(self):
        rows = {"other": (2, 0, 0), "one": (1,), "rule": GUARD}
        self.is_just((divides(**rows), divides_right(**rows)), (True, False))
        self.is_just((rest(**rows), judge_divides(**rows)), ((1, 2), ("rest", (1, 2))))
        self.is_just(divides_holds(thing=("rest", (1, 2)), **rows), True)
        self.is_just(rest_right(other=(2, 0, 0), one=(0,), rule=GUARD), (1, 2))
        self.is_just(common_multiple(other=(2,), one=(0,), rule=GUARD), (0, 2))
        self.is_just(common_divisor(other=(1, 1), one=(2, 0), rule=GUARD), (1,))
        self.is_just(complement(other=(0,), one=(2,), rule=GUARD), (1,))

    def test_wrong_rules(self):
        for rule in WRONG_RULES:
            for tell in TELLS:
                self.refuses(BadRule, rule, tell, rule, (), ())
                self.refuses(BadRule, rule, tell, rule, [0], None)
            self.refuses(BadRule, rule, divides_holds, rule, (), (), ("rest", ()))
            self.refuses(BadRule, rule, divides_holds, rule, [0], None, 0)

    def test_wrong_rows(self):
        for rule in [ONE, BOTH, GUARD, shifted(8)]:
            for row in wrong_rows(len(rule)):
                for tell in TELLS:
                    self.refuses(BadRow, row, tell, rule, row, ())
                    self.refuses(BadRow, row, tell, rule, (0, 0), row)
                    self.refuses(BadRow, row, tell, rule, row, ["other"])
                    self.refuses(BadRow, row, tell, other=row, one=(), rule=rule)
                self.refuses(BadRow, row, divides_holds, rule, row, (), ("kind", 0))
                self.refuses(BadRow, row, divides_holds, rule, (), row, ("kind", 0))
                self.refuses(BadRow, row, divides_holds, rule, row, [0], None)
