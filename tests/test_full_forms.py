"""Full forms of motions."""

from itertools import product

from tests.samples import (BOTH, DEEP, GUARD, ONE, RULES, SMALL_RULES, STRANGE, SWAP, WRONG_NUMBERS, WRONG_RULES, Case, beside,
                           plain_is_pair, plain_motion, plain_product, shifted, spoiled)
from threesfit.errors import BadMotion, BadNumber, BadRule, BadSteps
from threesfit.motions import is_motion, motion_inverse, turn_of
from threesfit.steps import full_form, full_row, is_steps_form, motion_of_form, row_of_steps, steps_form


def full_motion(rule, power):
    """The motion of the full step to a power, as a product."""
    n = len(rule)
    found, step = ((0,) * n, tuple(range(n))), plain_motion(rule, full_row(rule))
    if power < 0:
        step = motion_inverse(step)
    for _ in range(abs(power)):
        found = plain_product(found, step)
    return found


class FullFormTests(Case):
    def check(self, rule, heap):
        motion = (heap, turn_of(rule, heap))
        found = full_form(rule, motion)
        self.is_just((type(found), len(found)), (tuple, 2))
        power, form = found
        self.is_just((power, len(form)), (min(heap), max(heap) - min(heap)))
        self.is_just(is_steps_form(rule, form), True)
        self.assertNotEqual(form[:1], ((1,) * len(rule),))
        row = row_of_steps(rule, form)
        self.is_just(plain_product(full_motion(rule, power), plain_motion(rule, row)), motion)
        self.is_just(motion_of_form(rule, power, form), motion)
        return found

    def test_near_motions(self):
        for rule, most in [(ONE, 5), (BOTH, 4), (GUARD, 2), (SWAP, 2)] + [(rule, 1) for rule in SMALL_RULES]:
            heaps = list(product(range(-most, most + 1), repeat=len(rule)))
            self.assertEqual(len({self.check(rule, heap) for heap in heaps}), len(heaps))

    def test_greater_numbers(self):
        for rule in RULES:
            n = len(rule)
            for heap in [(-200,) + (0,) * (n - 1), (0,) * (n - 1) + (200,), (200,) * n, (-200,) * n, (-99, 100, 7, 0)[:n] + (5,) * (n - 4),
                         tuple(k * k - 20 for k in range(n)), (230,) + (-3,) * (n - 1)]:
                self.check(rule, heap)

    def test_motions_of_rows(self):
        for rule in RULES:
            n = len(rule)
            for row in [(), (0,), (n - 1, 0, 0), tuple(k * k % n for k in range(60))]:
                form = steps_form(rule, row)
                fulls = len([step for step in form if step == (1,) * n])
                self.is_just(full_form(rule, plain_motion(rule, row)), (fulls, form[fulls:]))

    def test_powers_of_the_full_step(self):
        for rule in RULES:
            for power in (-200, -7, -1, 0, 1, 2, 200, 10 ** 30 + 1, -10 ** 39):
                heap = (power,) * len(rule)
                motion = (heap, turn_of(rule, heap))
                self.is_just(full_form(rule, motion), (power, ()))
                self.is_just(motion_of_form(rule, power, ()), motion)
                if abs(power) < 201:
                    self.is_just(full_motion(rule, power), motion)

    def test_by_hand(self):
        motion = ((1, -1, 2), (0, 2, 1))
        self.is_just(full_form(SWAP, motion), (-1, ((1, 1, 0), (1, 0, 1), (0, 1, 0))))
        self.is_just(full_form(ONE, ((-7,), (0,))), (-7, ()))
        self.is_just(motion_of_form(BOTH, -1, ((1, 0), (0, 1))), ((1, -1), (0, 1)))

    def test_by_name(self):
        form = ((1, 1, 0), (1, 0, 1), (0, 1, 0))
        self.is_just(full_form(motion=((1, -1, 2), (0, 2, 1)), rule=SWAP), (-1, form))
        self.is_just(motion_of_form(form=form, power=-1, rule=SWAP), ((1, -1, 2), (0, 2, 1)))


class WrongTests(Case):
    def test_wrong_rules(self):
        for rule in WRONG_RULES:
            self.refuses(BadRule, rule, full_form, rule, ((0,), (0,)))
            self.refuses(BadRule, rule, full_form, rule, None)
            self.refuses(BadRule, rule, motion_of_form, rule, 0, ())
            self.refuses(BadRule, rule, motion_of_form, rule, None, [0])

    def test_wrong_motions(self):
        for rule in RULES:
            n = len(rule)
            heap = (1,) + (0,) * (n - 1)
            turn = turn_of(rule, heap)
            others = [t for t in {turn[1:] + turn[:1], turn[::-1], tuple(range(n))} if t != turn]
            for thing in STRANGE + [(), (heap,), (heap, turn, turn), [heap, turn], (list(heap), turn), (heap, list(turn)),
                                    (turn, None), (heap[1:], turn), (heap + (0,), turn + (n,)), heap, 0,
                                    ((True,) + heap[1:], turn)] + [(heap, t) for t in others]:
                self.refuses(BadMotion, thing, full_form, rule, thing)
        for thing in spoiled(((1, 0), (1, 0))):
            if not plain_is_pair(thing) or not is_motion(BOTH, thing):
                self.refuses(BadMotion, thing, full_form, BOTH, thing)
        other = ((1, 0), (0, 1))
        self.refuses(BadMotion, other, full_form, BOTH, other)

    def test_wrong_powers(self):
        for rule in [ONE, GUARD, beside(GUARD, SWAP), shifted(8)]:
            for power in WRONG_NUMBERS:
                self.refuses(BadNumber, power, motion_of_form, rule, power, ())
                self.refuses(BadNumber, power, motion_of_form, rule, power, [0])
                self.refuses(BadNumber, power, motion_of_form, form=None, power=power, rule=rule)

    def test_wrong_forms(self):
        for rule in RULES:
            n = len(rule)
            full = (1,) * n
            for form in [thing for thing in STRANGE if thing != ()] + [0, full, [full], (full,), (full, full), ((0,) * n,),
                         (full + (1,),), (full[1:],), ([1] * n,), ((True,) * n,), ((1,) + (0,) * (n - 1), full), DEEP]:
                self.refuses(BadSteps, form, motion_of_form, rule, 0, form)
                self.refuses(BadSteps, form, motion_of_form, rule, -10 ** 30, form)
        for form in [((1, 1, 1), (1, 0, 1)), ((1, 0, 1), (1, 0, 1)), ((1, 0, 0), (1, 1, 0))]:
            self.refuses(BadSteps, form, motion_of_form, SWAP, 1, form)
        self.is_just(motion_of_form(SWAP, 0, ((1, 0, 1), (1, 1, 0)))[0], (2, 0, 2))
