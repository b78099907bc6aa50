"""Blocks that are repeated."""

from itertools import product

from tests.samples import (BOTH, CYCLE, GUARD, RULES, SMALL_RULES, WRONG_COUNTS, WRONG_RULES, Case, beside, shifted,
                           wrong_rows)
from threesfit.errors import BadPlace, BadRow, BadRule
from threesfit.orders import far_heap, far_kind, heap_of, order_of

FAR = 10 ** 30


def blocks_of(rule):
    n = len(rule)
    yield from ((k,) for k in range(n))
    yield from ((n - 1, 0), (0, n // 2, 0), tuple(k * k % n for k in range(12)), tuple(k * 3 % n for k in range(13)))


class FarTests(Case):
    def test_near_places(self):
        for rule in RULES:
            for block in blocks_of(rule):
                order = order_of(rule, block * 20)
                self.is_just([far_kind(rule, block, k) for k in range(len(block) * 3)], list(order[:len(block) * 3]))
                self.is_just(far_kind(rule, block, len(order) - 1), order[-1])

    def test_all_short_blocks(self):
        for rule in SMALL_RULES:
            for block in product(range(len(rule)), repeat=2):
                order = order_of(rule, block * 30)
                self.is_just(tuple(far_kind(rule, block, k) for k in range(60)), order)

    def test_few_times(self):
        for rule in RULES:
            for block in blocks_of(rule):
                for times in (0, 1, 2, 3, 4, 7, 12, 25):
                    self.is_just(far_heap(rule, block, times), heap_of(rule, block * times))

    def test_times_0(self):
        for rule in RULES:
            self.is_just(far_heap(rule, (0,), 0), (0,) * len(rule))
            self.is_just(far_kind(rule, (0,), 0), 0)

    def test_far_places(self):
        # Turns of at most eight kinds come back behind 840 blocks.
        for rule in RULES:
            for block in blocks_of(rule):
                for place in (FAR - 1, FAR, 10 * FAR):
                    near = place % (840 * len(block))
                    self.is_just(far_kind(rule, block, place), far_kind(rule, block, near))
                blocks = order_of(rule, block * (FAR % 840 + 1))
                self.is_just(far_kind(rule, block, FAR * len(block)), blocks[FAR % 840 * len(block)])

    def test_many_times(self):
        for rule in RULES:
            for block in blocks_of(rule):
                around = far_heap(rule, block, 840)
                more = far_heap(rule, block, FAR % 840)
                wanted = tuple(a * (FAR // 840) + b for a, b in zip(around, more))
                self.is_just(far_heap(rule, block, FAR), wanted)
                self.is_just(sum(far_heap(rule, block, FAR)), FAR * len(block))

    def test_by_hand(self):
        self.is_just(far_heap(BOTH, (0,), FAR), (FAR // 2, FAR // 2))
        self.is_just(far_heap(BOTH, (0,), FAR - 1), (FAR // 2, FAR // 2 - 1))
        self.is_just(far_heap(CYCLE, (0,), FAR), (FAR // 3 + 1, FAR // 3, FAR // 3))
        self.is_just([far_kind(CYCLE, (0,), FAR + k) for k in range(3)], [1, 2, 0])
        self.is_just(far_heap(beside(CYCLE, shifted(5)), (3,), FAR), (0, 0, 0) + (FAR // 5,) * 5)

    def test_by_name(self):
        self.is_just(far_kind(place=3, block=(2, 0), rule=GUARD), 0)
        self.is_just(far_heap(times=5, block=(2, 0), rule=GUARD), (2, 3, 5))


class WrongTests(Case):
    def test_wrong_rules(self):
        for rule in WRONG_RULES:
            for tell in (far_kind, far_heap):
                self.refuses(BadRule, rule, tell, rule, (0,), 0)
                self.refuses(BadRule, rule, tell, rule, (), None)

    def test_wrong_blocks(self):
        for rule in RULES:
            for block in wrong_rows(len(rule)) + [()]:
                for tell in (far_kind, far_heap):
                    self.refuses(BadRow, block, tell, rule, block, 0)
                    self.refuses(BadRow, block, tell, rule, block, -1)

    def test_wrong_numbers(self):
        for rule in [BOTH, GUARD, shifted(8)]:
            for many in WRONG_COUNTS:
                for block in [(0,), (0, 1)]:
                    self.refuses(BadPlace, many, far_kind, rule, block, many)
                    self.refuses(BadPlace, many, far_heap, rule, block, many)
                self.refuses(BadPlace, many, far_kind, place=many, block=(0,), rule=rule)
                self.refuses(BadPlace, many, far_heap, times=many, block=(0,), rule=rule)
