"""Common multiples, common divisors and complements."""

from itertools import product

from tests.samples import (BIG_RULES, BOTH, CYCLE, GUARD, RULES, SMALL_RULES, SWAP, Case, class_of, long_rows, plain_heap,
                           rows_of, shifted)
from threesfit.dividing import common_divisor, common_multiple, complement, divides, rest
from threesfit.likeness import are_alike
from threesfit.orders import first_row
from threesfit.stars import stars_of


def divisors_of(rule, row):
    """All rows that divide a row from the left, by the words of the document."""
    return {other[:many] for other in class_of(rule, row) for many in range(len(row) + 1)}


class BruteTests(Case):
    def check(self, rule, one, other, rows, divisors):
        """Check multiples and divisors among rows, of which the divisors are known."""
        multiples = [row for row in rows if one in divisors[row] and other in divisors[row]]
        shortest = {row for row in multiples if len(row) == min(map(len, multiples))}
        found = common_multiple(rule, one, other)
        self.is_just(found, min(shortest))
        self.assertEqual(class_of(rule, found), shortest)
        self.assertTrue(all(found in divisors[row] for row in multiples))
        both = divisors[one] & divisors[other]
        longest = {row for row in both if len(row) == max(map(len, both))}
        found = common_divisor(rule, one, other)
        self.is_just(found, min(longest))
        self.assertEqual(class_of(rule, found), longest)
        self.assertTrue(all(row in divisors[found] for row in both))
        rests = {row[len(one):] for row in shortest if row[:len(one)] == one}
        self.is_just(complement(rule, one, other), min(rests))
        self.assertEqual(class_of(rule, min(rests)), rests)

    def test_short_rows(self):
        for rule, most in [(BOTH, 3), (GUARD, 2), (SWAP, 2), (CYCLE, 2), (SMALL_RULES[-1], 1), (SMALL_RULES[-2], 1)]:
            rows = list(rows_of(len(rule), 2 * most))
            divisors = {row: divisors_of(rule, row) for row in rows}
            for one, other in product(rows_of(len(rule), most), repeat=2):
                self.check(rule, one, other, rows, divisors)


class RuleTests(Case):
    def test_kinds(self):
        for rule in RULES:
            stars = stars_of(rule)
            for x, y in product(range(len(rule)), repeat=2):
                wanted = () if x == y else (stars[x][y],)
                self.is_just(complement(rule, (x,), (y,)), wanted)
                self.is_just(common_divisor(rule, (x,), (y,)), (x,) if x == y else ())
                self.is_just(common_multiple(rule, (x,), (y,)), min((x,) + wanted, (y,) + complement(rule, (y,), (x,))))

    def test_the_empty_row_and_itself(self):
        for rule in RULES:
            for row in [(), (0,), (len(rule) - 1, 0)] + long_rows(len(rule)):
                first = first_row(rule, plain_heap(rule, row))
                self.is_just((common_multiple(rule, row, ()), common_multiple(rule, (), row)), (first, first))
                self.is_just((common_divisor(rule, row, ()), common_divisor(rule, (), row)), ((), ()))
                self.is_just((complement(rule, row, ()), complement(rule, (), row)), ((), first))
                self.is_just((common_multiple(rule, row, row), common_divisor(rule, row, row)), (first, first))
                self.is_just(complement(rule, row, row), ())

    def test_long_rows(self):
        for rule in RULES:
            n = len(rule)
            for one, other in [(long_rows(n)[0], long_rows(n)[1]), (long_rows(n)[1], (n - 1,) * 60), ((0,) * 60, (n - 1, 0))]:
                heap, more = plain_heap(rule, one), plain_heap(rule, other)
                multiple, divisor = common_multiple(rule, one, other), common_divisor(rule, one, other)
                self.is_just(plain_heap(rule, multiple), tuple(max(pair) for pair in zip(heap, more)))
                self.is_just(plain_heap(rule, divisor), tuple(min(pair) for pair in zip(heap, more)))
                for row in (multiple, divisor):
                    self.is_just(first_row(rule, plain_heap(rule, row)), row)
                for row in (one, other):
                    self.is_just((divides(rule, row, multiple), divides(rule, divisor, row)), (True, True))
                for row, second in ((one, other), (other, one)):
                    found = complement(rule, row, second)
                    self.is_just(found, rest(rule, row, multiple))
                    self.is_just(are_alike(rule, row + found, multiple), True)

    def test_both_orders_of_the_rows(self):
        for rule in BIG_RULES:
            row, other = long_rows(len(rule))[0], long_rows(len(rule))[1]
            for tell in (common_multiple, common_divisor):
                self.is_just(tell(rule, row, other), tell(rule, other, row))

    def test_multiples_of_more_than_60_items(self):
        rule = shifted(2)
        self.is_just(common_multiple(rule, (0, 1) * 30, (1, 0) * 30), first_row(rule, (60, 60)))
        self.is_just(common_divisor(rule, (0, 1) * 30, (1, 0) * 30), ())
        self.is_just(len(complement(rule, (0, 1) * 30, (1, 0) * 30)), 60)
