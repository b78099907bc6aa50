"""Classes of alike rows: how many rows they have, their numbers, and the heaps of a length."""

from itertools import permutations, product
from math import comb, factorial

from tests.samples import (BOTH, CYCLE, DEEP, GUARD, ONE, RULES, SMALL_RULES, SWAP, WRONG_RULES, Case, beside, long_rows,
                           plain_heap, rows_of, shifted, wrong_heaps, wrong_places, wrong_rows)
from tests.samples import class_of as plain_class
from threesfit.errors import BadHeap, BadPlace, BadRow, BadRule
from threesfit.likeness import class_of, heaps_of_length, many_alike, number_of, row_at
from threesfit.orders import first_row, order_of, row_of


def rows_to_try(rule):
    n = len(rule)
    yield from rows_of(n, {1: 6, 2: 4, 3: 3}.get(n, 2))
    yield from ((0, n - 1, 0, n // 2, n - 1), tuple(k * k % n for k in range(6)), (0, 0, 0, n - 1, n - 1, 0))


def many_orders(heap):
    many = factorial(sum(heap))
    for times in heap:
        many //= factorial(times)
    return many


class ClassTests(Case):
    def test_classes(self):
        for rule in RULES:
            for row in rows_to_try(rule):
                wanted = tuple(sorted(plain_class(rule, row), key=lambda other: order_of(rule, other)))
                self.is_just(class_of(rule, row), wanted)
                self.is_just(many_alike(rule, row), len(wanted))
                for number, other in enumerate(wanted):
                    self.is_just(row_at(rule, plain_heap(rule, row), number), other)
                self.is_just(number_of(rule, row), wanted.index(row))
                self.is_just(number_of(rule, wanted[-1]), len(wanted) - 1)

    def test_orders_ascend_without_gaps(self):
        for rule in [ONE, BOTH, GUARD, SWAP]:
            for row in rows_to_try(rule):
                orders = [order_of(rule, other) for other in class_of(rule, row)]
                self.assertEqual(orders, sorted(set(permutations(orders[0]))))

    def test_a_class_of_seven_items(self):
        rule = beside(GUARD, SWAP)
        found = class_of(rule, (0, 3, 1, 4, 2, 5, 0))
        self.assertEqual(len(found), many_alike(rule, (0, 3, 1, 4, 2, 5, 0)))
        self.assertEqual(set(found), plain_class(rule, (0, 3, 1, 4, 2, 5, 0)))
        self.assertEqual([number_of(rule, row) for row in found], list(range(len(found))))

    def test_the_empty_row(self):
        for rule in RULES:
            self.is_just((class_of(rule, ()), many_alike(rule, ()), number_of(rule, ())), (((),), 1, 0))
            self.is_just(row_at(rule, (0,) * len(rule), 0), ())

    def test_numbers_go_by_orders_and_not_by_rows(self):
        # The orders of these rows are (0, 0, 1), (0, 1, 0) and (1, 0, 0).
        self.is_just(class_of(BOTH, (0, 0, 0)), ((0, 1, 1), (0, 0, 0), (1, 1, 0)))
        self.is_just([number_of(BOTH, row) for row in ((0, 1, 1), (0, 0, 0), (1, 1, 0))], [0, 1, 2])
        self.is_just([row_at(BOTH, (2, 1), k) for k in range(3)], [(0, 1, 1), (0, 0, 0), (1, 1, 0)])
        for rule in [SWAP, CYCLE]:
            self.is_just(class_of(rule, (0, 1, 2))[0] == min(class_of(rule, (0, 1, 2))), rule == CYCLE)


class LongTests(Case):
    def test_many_rows(self):
        for rule in RULES:
            for row in long_rows(len(rule)):
                self.is_just(many_alike(rule, row), many_orders(plain_heap(rule, row)))
        self.is_just(many_alike(BOTH, (0, 1) * 30), 1)
        self.is_just(many_alike(BOTH, row_of(BOTH, (0, 1) * 30)), comb(60, 30))
        kinds = tuple(k % 8 for k in range(64))
        self.is_just(many_alike(shifted(8), row_of(shifted(8), kinds)), factorial(64) // factorial(8) ** 8)

    def test_there_and_back(self):
        for rule in RULES:
            for row in long_rows(len(rule))[:2]:
                heap, number = plain_heap(rule, row), number_of(rule, row)
                self.is_just(row_at(rule, heap, number), row)
                many = many_orders(heap)
                for other in {0, 1 % many, many // 2, many // 3, many - 1}:
                    self.is_just(number_of(rule, row_at(rule, heap, other)), other)
                order = tuple(sorted(order_of(rule, row)))
                self.is_just(row_at(rule, heap, 0), row_of(rule, order))
                self.is_just(row_at(rule, heap, many - 1), row_of(rule, order[::-1]))

    def test_numbers_ascend_with_orders(self):
        for rule in [GUARD, shifted(8)]:
            heap = plain_heap(rule, long_rows(len(rule))[0])
            orders = [order_of(rule, row_at(rule, heap, 10 ** 15 + k)) for k in range(50)]
            self.assertEqual(orders, sorted(orders))
            self.assertEqual(len(set(orders)), 50)

    def test_by_hand(self):
        # Orders of two kinds: the number is that of the places at which 1 stands.
        heap = (30, 30)
        self.is_just(order_of(BOTH, row_at(BOTH, heap, 1)), (0,) * 29 + (1, 0) + (1,) * 29)
        self.is_just(order_of(BOTH, row_at(BOTH, heap, comb(59, 30))), (1,) + (0,) * 30 + (1,) * 29)
        self.is_just(order_of(BOTH, row_at(BOTH, heap, comb(59, 30) - 1)), (0,) + (1,) * 30 + (0,) * 29)


class HeapTests(Case):
    def test_heaps_of_length(self):
        for n in range(1, 9):
            for length in range(7 if n < 6 else 4):
                wanted = tuple(heap for heap in product(range(length + 1), repeat=n) if sum(heap) == length)
                self.is_just(heaps_of_length(n, length), wanted)
            for length in range(9):
                found = heaps_of_length(n, length)
                self.assertEqual((list(found), len(found)), (sorted(set(found)), comb(n + length - 1, length)))
        self.is_just(heaps_of_length(length=2, n=2), ((0, 2), (1, 1), (2, 0)))
        self.is_just([heaps_of_length(1, 0), heaps_of_length(1, 6), heaps_of_length(3, 0)], [((0,),), ((6,),), ((0, 0, 0),)])

    def test_one_class_for_each_heap(self):
        for rule in SMALL_RULES:
            n = len(rule)
            for length in range(5 if n < 4 else 4):
                rows = set(product(range(n), repeat=length))
                for heap in heaps_of_length(n, length):
                    found = class_of(rule, first_row(rule, heap))
                    self.assertEqual(min(found), first_row(rule, heap))
                    self.assertLessEqual(set(found), rows)
                    rows -= set(found)
                self.assertEqual(rows, set())


class CallTests(Case):
    def test_by_name(self):
        self.is_just(many_alike(row=(2, 0, 1), rule=GUARD), 6)
        self.is_just(number_of(row=(2, 0, 0), rule=GUARD), 2)
        self.is_just(class_of(row=(2, 0, 0), rule=GUARD), ((1, 1, 2), (1, 2, 0), (2, 0, 0)))
        self.is_just(row_at(number=1, heap=(0, 2, 1), rule=GUARD), (1, 2, 0))

    def test_wrong_rules(self):
        for rule in WRONG_RULES:
            for tell in (many_alike, number_of, class_of):
                self.refuses(BadRule, rule, tell, rule, ())
                self.refuses(BadRule, rule, tell, rule, [None])
            self.refuses(BadRule, rule, row_at, rule, (0,), 0)
            self.refuses(BadRule, rule, row_at, rule, [0], -1)

    def test_wrong_rows(self):
        for rule in RULES:
            for row in wrong_rows(len(rule)):
                for tell in (many_alike, number_of, class_of):
                    self.refuses(BadRow, row, tell, rule, row)

    def test_wrong_heaps(self):
        for rule in RULES:
            for heap in wrong_heaps(len(rule)):
                self.refuses(BadHeap, heap, row_at, rule, heap, 0)
                self.refuses(BadHeap, heap, row_at, rule, heap, None)

    def test_wrong_numbers(self):
        for rule in RULES:
            n = len(rule)
            for row in [(), (0,), (0, n - 1), tuple(k * k % n for k in range(60))]:
                heap = plain_heap(rule, row)
                for number in wrong_places(many_orders(heap)):
                    if number != 10 ** 39 or number >= many_orders(heap):
                        self.refuses(BadPlace, number, row_at, rule, heap, number)
            for number in (None, True, False, -1, "0", [0]):
                self.refuses(BadPlace, number, row_at, rule, (10 ** 39,) * n, number)
        self.refuses(BadPlace, DEEP, row_at, number=DEEP, heap=(0, 2, 1), rule=GUARD)
        self.refuses(BadPlace, 3, row_at, GUARD, (0, 2, 1), 3)
