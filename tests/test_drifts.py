"""Fractions of words, drifts, powers, moved points, roots, what leads over, and what is central."""

from itertools import product

from tests.samples import (BIG_RULES, BOTH, CALM, CYCLE, DEEP, EIGHT_TURNS, GUARD, ONE, RULES, SMALL_RULES, STRANGE, STUCK, SWAP,
                           WRONG_NUMBERS, WRONG_RULES, Case, beside, led, plain_inverse, plain_is_pair, plain_kind_motion,
                           plain_motion, plain_product, plain_turn, plain_word_motion, shifted, spoiled, wrong_motions,
                           wrong_words)
from threesfit.dividing import common_divisor
from threesfit.errors import BadMotion, BadNumber, BadRule, BadWord
from threesfit.motions import is_motion, motion_inverse, motion_product
from threesfit.orders import first_row
from threesfit.words import (drift_holds, fraction, is_central, judge_drift, leads_over, motion_power, moved, root_of)

MIDDLE = [rule for rule in RULES + [shifted(5), beside(GUARD, BOTH)] if len(rule) < 6]


def motion(rule, heap):
    return heap, plain_turn(rule, heap)


def motions_near(rule, most):
    """All motions with numbers from -most to most."""
    return [motion(rule, heap) for heap in product(range(-most, most + 1), repeat=len(rule))]


def some_motions(rule):
    """Some motions, also with great numbers."""
    n = len(rule)
    heaps = [tuple((k * (5 * y + 2) + y * y) % 11 - 5 for y in range(n)) for k in range(12)]
    far = [(0,) * n, (1,) * n, (1000,) * n, (-1000,) + (0,) * (n - 1), (10 ** 39,) * (n - 1) + (-10 ** 30,)]
    return [motion(rule, heap) for heap in heaps + far]


def plain_power(pair, k):
    found = (0,) * len(pair[0]), tuple(range(len(pair[0])))
    for _ in range(abs(k)):
        found = plain_product(found, pair)
    return found if k >= 0 else plain_inverse(found)


def rounds(turn):
    """All rounds of a turn."""
    found = []
    for y in range(len(turn)):
        path = [y]
        while turn[path[-1]] != y:
            path.append(turn[path[-1]])
        if min(path) == y:
            found.append(tuple(path))
    return found


class FractionTests(Case):
    def check(self, rule, word):
        n = len(rule)
        found = fraction(rule, word)
        self.is_just([type(found), len(found)], [tuple, 2])
        heap, _ = plain_word_motion(rule, word)
        undone, kept = (plain_motion(rule, row) for row in found)
        for row in found:
            self.is_just(first_row(rule, plain_motion(rule, row)[0]), row)
        self.is_just(common_divisor(rule, *found), ())
        self.is_just(plain_inverse(undone)[0], tuple(min(many, 0) for many in heap))
        self.is_just(plain_product(plain_inverse(undone), kept), plain_word_motion(rule, word))
        letters = tuple(-x - 1 for x in reversed(found[0])) + tuple(x + 1 for x in found[1])
        self.is_just(plain_word_motion(rule, letters)[0], heap)
        return found

    def test_short_words(self):
        for rule, most in [(ONE, 5), (BOTH, 5), (GUARD, 3), (SWAP, 3), (CYCLE, 3), (STUCK, 2), (EIGHT_TURNS, 2)]:
            n = len(rule)
            found = {}
            for many in range(most + 1):
                for word in product([letter for letter in range(-n, n + 1) if letter], repeat=many):
                    found.setdefault(self.check(rule, word), set()).add(plain_word_motion(rule, word))
            self.assertEqual({len(motions) for motions in found.values()}, {1})
            self.assertEqual(len(set.union(*found.values())), len(found))

    def test_longer_words(self):
        for rule in RULES:
            n = len(rule)
            for word in [tuple((k * k % n + 1) * (-1) ** (k // 3) for k in range(60)), (-1, n) * 100, (n,) * 200, (-n,) * 100 + (1,) * 105]:
                self.check(rule, word)

    def test_by_hand(self):
        self.is_just([fraction(BOTH, (1, -2)), fraction(BOTH, (1, 1, -2)), fraction(BOTH, (1, -1)), fraction(BOTH, ())],
                     [((0,), (1,)), ((), (1,)), ((), ()), ((), ())])
        self.is_just([fraction(GUARD, (-3, -1)), fraction(GUARD, (3, -1))], [((0, 2), ()), ((1,), (2,))])
        self.is_just(fraction(word=(1, -2), rule=BOTH), ((0,), (1,)))

    def test_errors(self):
        for rule in RULES:
            for word in wrong_words(len(rule)):
                self.refuses(BadWord, word, fraction, rule, word)
        for rule in WRONG_RULES:
            self.refuses(BadRule, rule, fraction, rule, (1,))
            self.refuses(BadRule, rule, fraction, rule, None)


class DriftTests(Case):
    def test_certificates(self):
        for rule in MIDDLE + BIG_RULES:
            for heap, turn in some_motions(rule):
                found = judge_drift(rule, (heap, turn))
                self.is_just(drift_holds(rule, (heap, turn), found), True)
                drifts = [path for path in rounds(turn) if sum(heap[y] for y in path)]
                if any(heap):
                    self.assertIn(found, [("drifts", path) for path in drifts])
                else:
                    self.is_just((found, drifts), (("empty",), []))
                for path in rounds(turn):
                    self.is_just(drift_holds(rule, (heap, turn), ("drifts", path)), path in drifts)
                self.is_just(drift_holds(rule, (heap, turn), ("empty",)), not any(heap))

    def test_any_value(self):
        for rule in [ONE, BOTH, GUARD, CYCLE, STUCK, EIGHT_TURNS]:
            for heap, turn in some_motions(rule)[:9] + some_motions(rule)[-5:]:
                right = {repr(("drifts", path)) for path in rounds(turn) if sum(heap[y] for y in path)}
                right |= set() if any(heap) else {repr(("empty",))}
                things = [thing for path in rounds(turn) for thing in spoiled(("drifts", path))] + STRANGE
                things += [("drifts", path[1:] + path[:1]) for path in rounds(turn)] + [("drifts", path[::-1]) for path in rounds(turn)]
                things += [("drifts", path * 2) for path in rounds(turn)] + list(spoiled(("empty",)))
                things += [("drifts", (y,)) for y in range(len(rule))] + [("drifts", ()), ("drifts",), ("empty", ()), "empty", ["empty"]]
                things += [("drifts", tuple(range(len(rule)))), ("drifts", (0, 0)), ("drifts", (len(rule),)), {"empty": 0}]
                for thing in things:
                    self.says(repr(thing) in right, drift_holds, rule, (heap, turn), thing)

    def test_no_point_stays(self):
        for rule in [BOTH, GUARD, CYCLE]:
            for pair in motions_near(rule, 1):
                for point in product(range(-2, 3), repeat=len(rule)):
                    self.is_just(moved(pair, point) == point, not any(pair[0]))

    def test_by_name(self):
        self.is_just(judge_drift(motion=((1, 0), (1, 0)), rule=BOTH), ("drifts", (0, 1)))
        self.is_just(drift_holds(thing=("drifts", (0, 1)), motion=((1, 0), (1, 0)), rule=BOTH), True)


class PowerTests(Case):
    def test_powers(self):
        for rule in RULES:
            for pair in some_motions(rule):
                power = ((0,) * len(rule), tuple(range(len(rule))))
                for k in range(14):
                    self.says(power, motion_power, pair, k)
                    self.is_just(motion_power(pair, -k), plain_inverse(power))
                    power = plain_product(power, pair)

    def test_far_powers(self):
        for rule in RULES:
            for pair in some_motions(rule):
                for k, more in [(10 ** 30, 10 ** 30 - 1), (-10 ** 30, 7), (10 ** 30, -10 ** 30), (123456789 ** 3, -5)]:
                    both = motion_product(motion_power(pair, k), motion_power(pair, more))
                    self.is_just(motion_power(pair, k + more), both)
                self.is_just(motion_power(motion_power(pair, 10 ** 15), -10 ** 15), motion_power(pair, -10 ** 30))
                self.is_just(motion_power(pair, 0), ((0,) * len(rule), tuple(range(len(rule)))))
                self.is_just(is_motion(rule, motion_power(pair, 10 ** 30)), True)
        self.is_just(motion_power(((1, 0), (1, 0)), 10 ** 30 + 1), ((5 * 10 ** 29 + 1, 5 * 10 ** 29), (1, 0)))
        self.is_just(motion_power(k=-10 ** 30, motion=((1,), (0,))), ((-10 ** 30,), (0,)))

    def test_moved(self):
        for rule in RULES:
            n = len(rule)
            for heap, turn in some_motions(rule):
                for point in [(0,) * n, tuple(range(n)), tuple(7 * y * y - 5 for y in range(n)), (10 ** 30,) * n]:
                    wanted = plain_product((heap, turn), (point, turn))[0]
                    self.says(wanted, moved, (heap, turn), point)
        self.is_just(moved(point=(5, 2), motion=((1, 0), (1, 0))), (3, 5))


class RootTests(Case):
    def test_roots_of_powers(self):
        for rule in MIDDLE:
            pairs = [motion(rule, tuple((k * (3 * y + 1) + y) % 7 - 3 for y in range(len(rule)))) for k in range(7)]
            for pair in pairs:
                for k in (1, 2, 3, 4, 6, 11, 12):
                    wanted = motion_power(pair, k)
                    root = root_of(rule, wanted, k)
                    self.is_just(is_motion(rule, root), True)
                    self.is_just(plain_power(root, k), wanted)

    def test_all_near_roots(self):
        for rule, most, more in [(ONE, 8, 9), (CALM, 2, 3), (BOTH, 4, 8), (GUARD, 2, 3), (SWAP, 2, 3), (CYCLE, 2, 4), (shifted(4), 1, 2),
                                 (STUCK, 1, 2), (EIGHT_TURNS, 1, 2)]:
            others = motions_near(rule, more)
            for k in (1, 2, 3, 4, 5) if len(rule) < 4 else (2, 3):
                powers = {motion_power(other, k) for other in others}
                for pair in motions_near(rule, most):
                    root = root_of(rule, pair, k)
                    if pair in powers:
                        self.assertIsNotNone(root)
                    if root is not None:
                        self.is_just((is_motion(rule, root), plain_power(root, k)), (True, pair))
                    elif sum(pair[0]) % k:
                        self.assertNotIn(pair, powers)

    def test_by_hand(self):
        self.is_just(root_of(ONE, ((50,), (0,)), 5), ((10,), (0,)))
        self.is_just(root_of(ONE, ((50,), (0,)), 12), None)
        self.is_just(root_of(BOTH, ((2, 0), (0, 1)), 2), None)
        root = root_of(BOTH, ((2, 2), (0, 1)), 2)
        self.is_just((sum(root[0]), plain_power(root, 2)), (2, ((2, 2), (0, 1))))
        self.is_just(root_of(CALM, ((48, -36), (0, 1)), 12), ((4, -3), (0, 1)))
        self.is_just(root_of(led((1, 2, 0)), ((1, 1, 1), (0, 1, 2)), 3)[0] in [heap for heap, _ in motions_near(led((1, 2, 0)), 3)], True)

    def test_greater_numbers(self):
        rule = shifted(5)
        pair = motion(rule, (50, -50, 50, -50, 1))
        self.is_just(plain_power(root_of(rule, pair, 1), 1), pair)
        for rule in MIDDLE:
            n = len(rule)
            for pair in [motion(rule, (50,) * n), motion(rule, (48, -48, 50, 24, -12)[:n]), motion(rule, (-50,) * (n - 1) + (50,))]:
                for k in range(1, 13):
                    root = root_of(rule, pair, k)
                    if root is not None:
                        self.is_just((is_motion(rule, root), plain_power(root, k)), (True, pair))

    def test_errors(self):
        for rule in [ONE, BOTH, GUARD, STUCK, shifted(5)]:
            pair = plain_kind_motion(rule, 0)
            for k in WRONG_NUMBERS + [0, -1, -10 ** 30]:
                self.refuses(BadNumber, k, root_of, rule, pair, k)
        self.refuses(BadNumber, DEEP, root_of, k=DEEP, motion=((1, 0), (1, 0)), rule=BOTH)
        self.is_just(root_of(k=2, motion=((2, 0), (0, 1)), rule=BOTH), None)


class LeadsTests(Case):
    def check(self, rule, one, other, led_over):
        found = leads_over(rule, one, other)
        if led_over:
            self.assertIsNotNone(found)
        if found is not None:
            self.is_just(is_motion(rule, found), True)
            self.is_just(plain_product(found, one), plain_product(other, found))

    def test_near_motions(self):
        for rule, most, more in [(ONE, 3, 1), (CALM, 1, 1), (BOTH, 2, 4), (GUARD, 1, 2), (SWAP, 1, 2), (CYCLE, 1, 2), (STUCK, 1, 1)]:
            leading = motions_near(rule, more)
            pairs = motions_near(rule, most)[::1 if len(rule) < 3 else 4]
            for one in pairs:
                reached = {motion_product(motion_product(w, one), motion_inverse(w)) for w in leading}
                for other in pairs:
                    self.check(rule, one, other, other in reached)

    def test_none(self):
        for rule in MIDDLE:
            n = len(rule)
            for one in some_motions(rule)[:4]:
                other = motion(rule, tuple(many + (y == 0) for y, many in enumerate(one[0])))
                self.is_just(leads_over(rule, one, other), None)
            self.is_just(leads_over(rule, motion(rule, (0,) * n), motion(rule, (0,) * (n - 1) + (1,))), None)
        self.is_just(leads_over(CALM, ((1, 0), (0, 1)), ((0, 1), (0, 1))), None)
        self.is_just(leads_over(BOTH, ((2, 0), (0, 1)), ((1, 1), (0, 1))), None)

    def test_far_answers(self):
        for rule in MIDDLE:
            n = len(rule)
            for k in range(6):
                w = motion(rule, tuple((k * (y + 2) * 17) % 41 - 20 for y in range(n)))
                for one in some_motions(rule)[:5]:
                    self.check(rule, one, motion_product(motion_product(w, one), motion_inverse(w)), True)
        found = leads_over(BOTH, ((50, -49), (1, 0)), ((-50, 51), (1, 0)))
        self.is_just(plain_product(found, ((50, -49), (1, 0))), plain_product(((-50, 51), (1, 0)), found))
        self.assertGreater(max(map(abs, found[0])), 30)

    def test_by_name(self):
        self.is_just(leads_over(other=((0, 1), (1, 0)), one=((1, 0), (1, 0)), rule=BOTH), None)


class CentralTests(Case):
    def test_products_in_both_orders(self):
        for rule in MIDDLE + BIG_RULES:
            n = len(rule)
            pairs = some_motions(rule) + [motion(rule, (many,) * n) for many in (2, -3, 4, 6)]
            if n < 4:
                pairs += motions_near(rule, 3)
            for pair in pairs:
                both = [(plain_product(pair, kind), plain_product(kind, pair)) for kind in (plain_kind_motion(rule, x) for x in range(n))]
                self.is_just(is_central(rule, pair), all(one == other for one, other in both))

    def test_by_hand(self):
        self.is_just([is_central(GUARD, ((1, 1, 2), (0, 1, 2))), is_central(GUARD, ((1, 1, 1), (1, 0, 2))), is_central(GUARD, ((2, 0, 0), (0, 1, 2)))],
                     [True, False, False])
        self.is_just([is_central(CALM, ((7, -5), (0, 1))), is_central(BOTH, ((1, 1), (0, 1))), is_central(BOTH, ((0, 0), (0, 1)))],
                     [True, True, True])
        self.is_just(is_central(motion=((2, 0), (0, 1)), rule=BOTH), False)


class WrongTests(Case):
    def test_wrong_rules(self):
        pair = ((0,), (0,))
        for rule in WRONG_RULES:
            for tell in (judge_drift, is_central):
                self.refuses(BadRule, rule, tell, rule, pair)
                self.refuses(BadRule, rule, tell, rule, None)
            for tell in (drift_holds, root_of, leads_over):
                self.refuses(BadRule, rule, tell, rule, pair, pair)
                self.refuses(BadRule, rule, tell, rule, None, [None])

    def test_wrong_motions(self):
        for rule in [ONE, BOTH, GUARD, STUCK, shifted(5)]:
            right = plain_kind_motion(rule, 0)
            wrong = wrong_motions(rule) + [thing for thing in spoiled(right) if not plain_is_pair(thing)]
            for pair in wrong:
                for tell in (judge_drift, is_central):
                    self.refuses(BadMotion, pair, tell, rule, pair)
                self.refuses(BadMotion, pair, drift_holds, rule, pair, ("empty",))
                self.refuses(BadMotion, pair, root_of, rule, pair, 1)
                self.refuses(BadMotion, pair, root_of, rule, pair, None)
                self.refuses(BadMotion, pair, leads_over, rule, pair, right)
                self.refuses(BadMotion, pair, leads_over, rule, right, pair)
                self.refuses(BadMotion, pair, leads_over, rule, pair, None)
