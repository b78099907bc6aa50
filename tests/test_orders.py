"""Rows, their orders and heaps."""

from itertools import permutations, product

from tests.samples import (BIG_RULES, BOTH, GUARD, RULES, SMALL_RULES, WRONG_RULES, Case, class_of, long_rows, met_at,
                           rows_of, shifted, wrong_heaps, wrong_rows)
from threesfit.errors import BadHeap, BadOrder, BadRow, BadRule
from threesfit.orders import (first_row, heap_of, is_row, order_of, right_heap, right_order, row_of, turn_of_row)
from threesfit.rules import left_turn, mirror
from threesfit.stars import is_stars, rule_of


def turned(rule, row, y):
    """To what the turn of a row turns a kind: the last left turn comes first."""
    for x in reversed(row):
        y = left_turn(rule, x)[y]
    return y


def plain_order(rule, row):
    return tuple(turned(rule, row[:k], row[k]) for k in range(len(row)))


def plain_heap(rule, order):
    return tuple(sum(1 for y in order if y == kind) for kind in range(len(rule)))


class RowTests(Case):
    def test_rows(self):
        for rule in RULES:
            n = len(rule)
            for row in [(), (0,), (n - 1,), (n - 1, 0)] + long_rows(n):
                self.is_just(is_row(rule, row), True)
            for thing in wrong_rows(n):
                self.is_just(is_row(rule, thing), False)
        self.is_just(is_row(thing=(2,), rule=GUARD), True)

    def test_wrong_rules(self):
        for rule in WRONG_RULES:
            self.refuses(BadRule, rule, is_row, rule, ())
            self.refuses(BadRule, rule, is_row, rule, None)


class OrderTests(Case):
    def test_short_rows(self):
        for rule in SMALL_RULES:
            for row in rows_of(len(rule), 4 if len(rule) < 4 else 3):
                order = plain_order(rule, row)
                self.is_just(order_of(rule, row), order)
                self.is_just(heap_of(rule, row), plain_heap(rule, order))
                self.is_just(turn_of_row(rule, row), tuple(turned(rule, row, y) for y in range(len(rule))))
                self.is_just(row_of(rule, order), row)
                self.is_just(order_of(rule, row_of(rule, row)), row)

    def test_long_rows(self):
        for rule in RULES:
            for row in long_rows(len(rule)) + [(len(rule) - 1, 0, 0)]:
                order = plain_order(rule, row)
                self.is_just(order_of(rule, row), order)
                self.is_just(heap_of(rule, row), plain_heap(rule, order))
                self.is_just(row_of(rule, order), row)
                self.is_just(order_of(rule, row_of(rule, row)), row)
                self.is_just(turn_of_row(rule, row), tuple(turned(rule, row, y) for y in range(len(rule))))

    def test_the_empty_row(self):
        for rule in RULES:
            zeros, kinds = (0,) * len(rule), tuple(range(len(rule)))
            self.is_just((order_of(rule, ()), row_of(rule, ()), right_order(rule, ())), ((), (), ()))
            self.is_just((heap_of(rule, ()), right_heap(rule, ()), turn_of_row(rule, ())), (zeros, zeros, kinds))

    def test_meetings_exchange(self):
        for rule in RULES:
            for row in long_rows(len(rule))[:1] + [(0, len(rule) - 1)]:
                order, turn = order_of(rule, row), turn_of_row(rule, row)
                for k in range(len(row) - 1):
                    other = met_at(rule, row, k)
                    self.is_just(order_of(rule, other), order[:k] + (order[k + 1], order[k]) + order[k + 2:])
                    self.is_just(turn_of_row(rule, other), turn)
                    self.is_just((heap_of(rule, other), right_heap(rule, other)),
                                 (heap_of(rule, row), right_heap(rule, row)))

    def test_from_the_right(self):
        for rule in RULES:
            for row in list(rows_of(len(rule), 2)) + long_rows(len(rule)):
                order = plain_order(mirror(rule), row[::-1])
                self.is_just(right_order(rule, row), order)
                self.is_just(right_heap(rule, row), plain_heap(rule, order))

    def test_by_name(self):
        self.is_just(order_of(row=(2, 0, 0), rule=GUARD), (2, 1, 1))
        self.is_just(heap_of(row=(2, 0, 0), rule=GUARD), (0, 2, 1))
        self.is_just(turn_of_row(row=(2, 0, 0), rule=GUARD), (1, 0, 2))
        self.is_just(right_order(row=(0, 0, 2), rule=GUARD), (2, 1, 1))
        self.is_just(right_heap(row=(0, 0, 2), rule=GUARD), (0, 2, 1))
        self.is_just(row_of(order=(1, 1, 2), rule=GUARD), (1, 1, 2))
        self.is_just(first_row(heap=(0, 2, 1), rule=GUARD), (1, 1, 2))


class HeapTests(Case):
    def check_classes(self, rule, length):
        """Check that rows are alike exactly if heaps, or right heaps, are equal."""
        for tell in (heap_of, right_heap):
            classes = {}
            for row in product(range(len(rule)), repeat=length):
                classes.setdefault(tell(rule, row), set()).add(row)
            for rows in classes.values():
                self.assertEqual(class_of(rule, min(rows)), rows)

    def test_alike_rows(self):
        grids = product(permutations(range(3)), repeat=3)
        for rule in [rule_of(grid) for grid in grids if is_stars(grid)]:
            self.check_classes(rule, 3)
        for rule in SMALL_RULES:
            for length in range(4):
                self.check_classes(rule, length)
        self.check_classes(GUARD, 5)
        self.check_classes(BOTH, 6)
        for rule in BIG_RULES:
            self.check_classes(rule, 2)

    def test_first_rows(self):
        for rule in SMALL_RULES:
            for length in range(5 if len(rule) < 4 else 4):
                first = {}
                for row in product(range(len(rule)), repeat=length):
                    first.setdefault(heap_of(rule, row), row)
                for heap, row in first.items():
                    self.is_just(first_row(rule, heap), row)

    def test_first_rows_of_great_heaps(self):
        self.is_just(first_row(shifted(1), (60,)), (0,) * 60)
        self.is_just(first_row(BOTH, (60, 0)), (0, 1) * 30)
        for rule in RULES:
            n = len(rule)
            heap = (60 - (n - 1) * (60 // n),) + (60 // n,) * (n - 1)
            row = first_row(rule, heap)
            self.is_just((len(row), heap_of(rule, row)), (60, heap))
            for k in range(59):
                self.assertLessEqual(row, met_at(rule, row, k))
            self.is_just(heap_of(rule, first_row(rule, (70,) + (0,) * (n - 1))), (70,) + (0,) * (n - 1))


class WrongTests(Case):
    def test_wrong_rules(self):
        for rule in WRONG_RULES:
            for tell in (order_of, heap_of, turn_of_row, right_order, right_heap, row_of, first_row):
                self.refuses(BadRule, rule, tell, rule, ())
                self.refuses(BadRule, rule, tell, rule, [None])

    def test_wrong_rows(self):
        for rule in RULES:
            for row in wrong_rows(len(rule)):
                for tell in (order_of, heap_of, turn_of_row, right_order, right_heap):
                    self.refuses(BadRow, row, tell, rule, row)
                self.refuses(BadOrder, row, row_of, rule, row)

    def test_wrong_heaps(self):
        for rule in RULES:
            for heap in wrong_heaps(len(rule)):
                self.refuses(BadHeap, heap, first_row, rule, heap)
