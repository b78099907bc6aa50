"""Pairs, their products and inverses, and the motions of rules."""

from itertools import permutations, product

from tests.samples import (BOTH, GUARD, ONE, RULES, SMALL_RULES, STRANGE, WRONG_RULES, Case, long_rows, plain_inverse,
                           plain_is_pair, plain_kind_motion, plain_motion, plain_product, rows_of, shifted, spoiled, wrong_heaps,
                           wrong_rows)
from threesfit.errors import BadHeap, BadMotion, BadRow, BadRule
from threesfit.motions import is_motion, motion_inverse, motion_of, motion_product, turn_of

LONG = 10 ** 39 + 7
WRONG_PAIRS = STRANGE + [(), 0, ((), ()), (((),), ((),)), ((0,) * 9, tuple(range(9))), ((0,),), ((0,), (0,), (0,)),
                         ((0,), (1,)), ((0,), (-1,)), ((0, 0), (0,)), ((0,), (0, 1)), ((0, 0), (0, 0)), ((0, 0), (1, 2)),
                         ((0, 0), (0, 1, 2)), ([0], (0,)), ((0,), [0]), [(0,), (0,)], {(0,): (0,)}, ((True,), (0,)),
                         ((0,), (False,)), ((0, 1), (False, True)), (("0",), (0,)), ((0,), ("0",)), (((0,),), (0,)),
                         ((0,), ((0,),)), ((0,), ([0],)), ((0,), ({},)), ("0", "0"), (0, 0), ((None,), (0,)), "00", GUARD,
                         ((0,), None), (None, (0,)), ((0, 0), ((0, 1), (1, 0)))]
TALL = (LONG, -LONG, 3, -10 ** 30, 0, 10 ** 30 - 1, -1, 12345678901234567890)


def empty(n):
    return (0,) * n, tuple(range(n))


def turns_of_size(n):
    if n < 4:
        return list(permutations(range(n)))
    mixed = tuple((k * 3 + 1) % n for k in range(n)) if n % 3 else (2, 0, 1) + tuple(range(n - 1, 2, -1))
    return [tuple(range(n)), tuple(range(1, n)) + (0,), tuple(range(n - 1, -1, -1)), mixed]


def pairs_of_size(n):
    heaps = [(0,) * n, tuple(range(n)), tuple(-(k + 1) ** 3 for k in range(n)), TALL[:n], TALL[::-1][:n]]
    return [(heap, turn) for heap in heaps for turn in turns_of_size(n)]


def motions_near(rule, most):
    """All motions of a rule whose numbers are at most so far from 0, as products of those of kinds and inverses."""
    steps = [plain_kind_motion(rule, x) for x in range(len(rule))]
    found, todo = {empty(len(rule))}, [empty(len(rule))]
    while todo:
        here = todo.pop()
        for step in steps:
            for other in (plain_product(here, step), plain_product(here, plain_inverse(step))):
                if max(map(abs, other[0])) <= most and other not in found:
                    found.add(other)
                    todo.append(other)
    return found


def frozen(rule):
    """How much can be added to each number of a heap without another turn: power rows are gone through."""
    n = len(rule)
    squares = [next(k for k in range(n) if rule[x][k][0] == x) for x in range(n)]
    for many in range(1, 1000):
        rows = []
        for x in range(n):
            row = [x]
            while len(row) < many:
                row.append(squares[row[-1]])
            rows.append(row)
        if all(plain_motion(rule, row)[1] == tuple(range(n)) for row in rows):
            return many
    raise AssertionError(rule)


class PairTests(Case):
    def test_products(self):
        for n in range(1, 9):
            for one, other in product(pairs_of_size(n), repeat=2):
                self.is_just(motion_product(one, other), plain_product(one, other))

    def test_products_of_three(self):
        for n in (1, 2, 3, 8):
            pairs = pairs_of_size(n)[::3]
            for one, other, third in product(pairs, repeat=3):
                self.is_just(motion_product(motion_product(one, other), third),
                             motion_product(one, motion_product(other, third)))

    def test_inverses(self):
        for n in range(1, 9):
            for pair in pairs_of_size(n) + [empty(n)]:
                back = motion_inverse(pair)
                self.is_just(back, plain_inverse(pair))
                self.is_just((motion_product(pair, back), motion_product(back, pair)), (empty(n), empty(n)))
                self.is_just((motion_product(pair, empty(n)), motion_product(empty(n), pair)), (pair, pair))
                self.is_just(motion_inverse(back), pair)

    def test_by_hand(self):
        self.is_just(motion_product(((1, 2, 3), (1, 2, 0)), ((10, 20, 30), (0, 2, 1))), ((31, 12, 23), (1, 0, 2)))
        self.is_just(motion_inverse(((1, 2, 3), (1, 2, 0))), ((-2, -3, -1), (2, 0, 1)))
        self.is_just(motion_inverse(((LONG,), (0,))), ((-LONG,), (0,)))

    def test_pairs_that_are_no_motions(self):
        self.is_just(motion_product(((1, 0), (0, 1)), ((0, 5), (0, 1))), ((1, 5), (0, 1)))
        self.is_just(is_motion(BOTH, ((1, 5), (1, 0))), False)

    def test_by_name(self):
        self.is_just(motion_product(other=((0, 1), (1, 0)), one=((1, 0), (1, 0))), ((2, 0), (0, 1)))
        self.is_just(motion_inverse(motion=((1, 0), (1, 0))), ((0, -1), (1, 0)))

    def test_wrong_pairs(self):
        spoiled_pairs = [thing for pair in (((0,), (0,)), ((1, 0), (1, 0)), (TALL[:3], (1, 2, 0)))
                         for thing in spoiled(pair) if not plain_is_pair(thing)]
        self.assertGreater(len(spoiled_pairs), 100)
        for thing in WRONG_PAIRS + spoiled_pairs:
            self.refuses(BadMotion, thing, motion_inverse, thing)
            self.refuses(BadMotion, thing, motion_product, thing, ((0,), (0,)))
            self.refuses(BadMotion, thing, motion_product, ((0,), (0,)), thing)
            self.refuses(BadMotion, thing, motion_product, thing, ["other"])
            self.refuses(BadMotion, thing, motion_product, other=thing, one=((1, 0), (1, 0)))

    def test_unlike_sizes(self):
        for n, m in permutations(range(1, 9), 2):
            one, other = pairs_of_size(n)[1], pairs_of_size(m)[1]
            self.refuses(BadMotion, other, motion_product, one, other)


class MotionTests(Case):
    def test_motions_near(self):
        for rule, most in [(ONE, 9), (BOTH, 4), (GUARD, 2)] + [(rule, 1) for rule in SMALL_RULES]:
            n = len(rule)
            found = motions_near(rule, most)
            self.assertEqual(sorted(heap for heap, _ in found), list(product(range(-most, most + 1), repeat=n)))
            for heap, turn in found:
                self.is_just(turn_of(rule, heap), turn)
                for other in permutations(range(n)):
                    self.is_just(is_motion(rule, (heap, other)), other == turn)

    def test_motions_of_rows(self):
        for rule in RULES:
            n = len(rule)
            for row in list(rows_of(n, 4 if n < 3 else 2)) + long_rows(n):
                motion = plain_motion(rule, row)
                self.is_just(motion_of(rule, row), motion)
                self.is_just(turn_of(rule, motion[0]), motion[1])
                self.is_just(is_motion(rule, motion), True)
                self.is_just(is_motion(rule, motion_inverse(motion)), True)
            self.is_just(motion_of(rule, ()), empty(n))

    def test_great_numbers(self):
        for rule in RULES:
            n, many = len(rule), frozen(rule)
            for heap in [TALL[:n], TALL[::-1][:n], (LONG,) * n, (-LONG,) * n, tuple((-10) ** (k * 5) for k in range(n))]:
                near = tuple(k % many for k in heap)
                turn = plain_turn(rule, near)
                self.is_just(turn_of(rule, heap), turn)
                self.is_just(is_motion(rule, (heap, turn)), True)
                self.is_just(is_motion(rule, (heap, turn[1:] + turn[:1])), n == 1)
                for k in range(n):
                    more = heap[:k] + (heap[k] + many * LONG,) + heap[k + 1:]
                    self.is_just(turn_of(rule, more), turn)

    def test_products_of_motions(self):
        for rule in RULES:
            n = len(rule)
            heaps = [TALL[:n], TALL[::-1][:n], (1,) + (0,) * (n - 1), (0,) * (n - 1) + (-2,)]
            motions = [(heap, turn_of(rule, heap)) for heap in heaps]
            for one, other in product(motions, repeat=2):
                self.is_just(is_motion(rule, motion_product(one, other)), True)
                self.is_just(is_motion(rule, motion_product(motion_inverse(one), other)), True)

    def test_one_more_and_one_less(self):
        for rule in RULES:
            n = len(rule)
            for heap in [TALL[:n], (0,) * n, tuple(range(-n, n, 2))]:
                turn = turn_of(rule, heap)
                for x in range(n):
                    y = turn[x]
                    more = heap[:y] + (heap[y] + 1,) + heap[y + 1:]
                    wanted = plain_product((heap, turn), plain_kind_motion(rule, x))
                    self.is_just((more, turn_of(rule, more)), wanted)
                    less = heap[:y] + (heap[y] - 1,) + heap[y + 1:]
                    (z,) = [k for k in range(n) if rule[k][x][0] == k]
                    wanted = plain_product((heap, turn), plain_inverse(plain_kind_motion(rule, z)))
                    self.is_just((less, turn_of(rule, less)), wanted)

    def test_frozen_numbers(self):
        self.assertEqual([frozen(rule) for rule in [ONE, BOTH, GUARD, shifted(5), shifted(8)]], [1, 2, 2, 5, 8])

    def test_by_name(self):
        self.is_just(is_motion(thing=((5, -2), (1, 0)), rule=BOTH), True)
        self.is_just(motion_of(row=(0, 0), rule=BOTH), ((1, 1), (0, 1)))
        self.is_just(turn_of(heap=(0, -3), rule=BOTH), (1, 0))

    def test_any_value_as_motion(self):
        for rule in RULES:
            for thing in WRONG_PAIRS + [pair for n in range(1, 9) if n != len(rule) for pair in pairs_of_size(n)]:
                if not plain_is_pair(thing) or len(thing[0]) != len(rule):
                    self.says(False, is_motion, rule, thing)
        for rule in SMALL_RULES:
            near = motions_near(rule, 1)
            for thing in spoiled(plain_motion(rule, (0, len(rule) - 1))):
                if plain_is_pair(thing) and len(thing[0]) == len(rule):
                    wanted = thing[1] == plain_turn(rule, tuple(k % frozen(rule) for k in thing[0]))
                    self.assertEqual(thing in near, wanted and max(map(abs, thing[0])) < 2)
                else:
                    wanted = False
                self.says(wanted, is_motion, rule, thing)


def plain_turn(rule, heap):
    """The turn of a heap without numbers below 0: kinds are put behind a row until it has this heap."""
    turn = tuple(range(len(rule)))
    for y, many in enumerate(heap):
        for _ in range(many):
            x = turn.index(y)
            turn = tuple(turn[rule[x][k][0]] for k in range(len(rule)))
    return turn


class WrongTests(Case):
    def test_wrong_rules(self):
        for rule in WRONG_RULES:
            for tell in (is_motion, motion_of, turn_of):
                self.refuses(BadRule, rule, tell, rule, ())
                self.refuses(BadRule, rule, tell, rule, [None])

    def test_wrong_rows(self):
        for rule in RULES:
            for row in wrong_rows(len(rule)):
                self.refuses(BadRow, row, motion_of, rule, row)

    def test_wrong_heaps(self):
        for rule in RULES:
            n = len(rule)
            for heap in wrong_heaps(n):
                if type(heap) is tuple and [type(k) for k in heap] == [int] * n:
                    self.is_just(len(turn_of(rule, heap)), n)
                else:
                    self.refuses(BadHeap, heap, turn_of, rule, heap)
            longer = (-1,) * (n + 1)
            self.refuses(BadHeap, longer, turn_of, rule, longer)
