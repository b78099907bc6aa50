"""Steps, steps forms and right forms."""

from itertools import product

from tests.samples import (BIG_RULES, BOTH, DEEP, GUARD, ONE, RULES, SMALL_RULES, STRANGE, SWAP, WRONG_RULES, Case, beside,
                           class_of, long_rows, plain_heap, plain_motion, rows_of, shifted, spoiled, wrong_rows)
from threesfit.dividing import divides, divides_right
from threesfit.errors import BadRow, BadRule, BadSteps
from threesfit.likeness import are_alike
from threesfit.orders import first_row
from threesfit.rules import mirror
from threesfit.steps import (full_row, full_turn, is_step, is_steps_form, right_form, row_of_steps, steps_form, steps_of)

WRONG_FORMS = [thing for thing in STRANGE if thing != ()] + [0, (0,), (0, 1), (1, 1, 1), "", [(1, 0, 1)], [], {},
               ((0, 0, 0),), ((1, 0, 2),), ((1, 0, -1),), ((1, 0),), ((1, 0, 1, 0),), ((1, 0, True),), ((True, 0, 1),),
               ((1, 0, False),), ((1, 0, "1"),), ((1, 0, None),), ([1, 0, 1],), ((1, 0, (1,)),), ((1, 0, 1), ()),
               ((1, 1, 1), [1, 0, 1]), ((1, 1, 1), (0, 0, 0)), ((0, 0, 0), (1, 1, 1)), ((1, 0, 0), (1, 1, 1)), ((),), DEEP]


def steps_for(n):
    return [step for step in product(range(2), repeat=n) if any(step)]


def longer_rows(n):
    """Rows up to lengths for which steps forms are still promised, and beyond."""
    return long_rows(n) + [tuple((k * k + k // 5) % n for k in range(200)), tuple((k * 3 + k // 7) % n for k in range(230))]


def put_together(rule, form):
    """The row of first rows of steps, one behind the other."""
    return tuple(x for step in form for x in first_row(rule, step))


class StepTests(Case):
    def test_steps(self):
        for rule in RULES:
            n = len(rule)
            for thing in product(range(-1, 3), repeat=min(n, 4)):
                thing = thing + (0,) * (n - len(thing))
                self.is_just(is_step(rule, thing), set(thing) <= {0, 1} and 1 in thing)
            for thing in STRANGE + [(), (0,) * n, (1,) * (n + 1), (1,) * (n - 1), [1] * n, (True,) * n, (1,) * (n - 1) + (False,),
                                    ("1",) * n, ((1,),) * n, 1, "1" * n, {1: 1}, (10 ** 39,) * n]:
                self.says(False, is_step, rule, thing)
        self.is_just(is_step(thing=(1, 0, 0), rule=GUARD), True)

    def test_the_full_step(self):
        for rule in RULES:
            n = len(rule)
            row = full_row(rule)
            self.is_just(row, first_row(rule, (1,) * n))
            self.is_just((len(row), plain_motion(rule, row)), (n, ((1,) * n, full_turn(rule))))
            f = full_turn(rule)
            for x, y in product(range(n), repeat=2):
                u, v = rule[x][y]
                self.is_just(rule[f[x]][f[y]], (f[u], f[v]))
            for y, x in enumerate(f):
                self.is_just(are_alike(rule, (x,) + row, row + (y,)), True)
        for rule in SMALL_RULES:
            self.is_just(full_row(rule), min(class_of(rule, full_row(rule))))
        self.is_just((full_row(rule=BOTH), full_turn(rule=SWAP)), ((0, 0), (0, 2, 1)))

    def test_what_divides_the_full_step(self):
        for rule in [ONE, BOTH, GUARD, SWAP]:
            full = full_row(rule)
            for row in rows_of(len(rule), len(rule) + 1):
                wanted = set(plain_heap(rule, row)) <= {0, 1}
                self.is_just((divides(rule, row, full), divides_right(rule, row, full)), (wanted, wanted))

    def test_first_rows_of_steps(self):
        for rule in RULES:
            n = len(rule)
            self.is_just(steps_of(rule), tuple(sorted(first_row(rule, step) for step in steps_for(n))))
            self.assertEqual(len(steps_of(rule)), 2 ** n - 1)
        for rule in SMALL_RULES:
            rows = [row for row in rows_of(len(rule), len(rule)) if is_step(rule, plain_heap(rule, row))]
            self.is_just(steps_of(rule), tuple(row for row in sorted(rows) if row == min(class_of(rule, row))))
        self.is_just(steps_of(rule=BOTH), ((0,), (0, 0), (1,)))


class FormTests(Case):
    def check(self, rule, row):
        form = steps_form(rule, row)
        heap = plain_heap(rule, row)
        self.is_just(len(form), max(heap))
        self.is_just(tuple(type(part) for part in form), (tuple,) * len(form))
        self.is_just(all([is_step(rule, step) for step in form]), True)
        self.is_just(is_steps_form(rule, form), True)
        whole = put_together(rule, form)
        self.is_just(row_of_steps(rule, form), whole)
        self.is_just(plain_motion(rule, whole), plain_motion(rule, row))
        if form:
            self.is_just(form[0], tuple(min(many, 1) for many in heap))
        return form

    def test_short_rows(self):
        for rule in SMALL_RULES + BIG_RULES[:2]:
            forms = {}
            for row in rows_of(len(rule), {1: 7, 2: 6, 3: 4}.get(len(rule), 2)):
                forms.setdefault(self.check(rule, row), set()).add(row)
            for rows in forms.values():
                self.assertEqual(class_of(rule, min(rows)), rows)

    def test_greatest_steps_divide(self):
        for rule in [ONE, BOTH, GUARD, SWAP]:
            for row in rows_of(len(rule), 4):
                form = steps_form(rule, row)
                for k in range(len(form)):
                    behind = put_together(rule, form[k:])
                    for step in steps_for(len(rule)):
                        less = all(step[y] <= form[k][y] for y in range(len(rule)))
                        self.is_just(divides(rule, first_row(rule, step), behind), less)

    def test_long_rows(self):
        for rule in RULES:
            for row in longer_rows(len(rule)):
                self.check(rule, row)

    def test_forms_by_hand(self):
        self.is_just(steps_form(BOTH, (0, 1) * 100), ((1, 0), (0, 1)) * 100)
        self.is_just(steps_form(BOTH, (0,) * 200), ((1, 1),) * 100)
        self.is_just(steps_form(GUARD, (2,) * 210), ((0, 0, 1),) * 210)
        self.is_just((steps_form(ONE, (0, 0)), steps_form(ONE, ())), (((1,), (1,)), ()))

    def test_all_forms(self):
        for rule, most in [(ONE, 4), (BOTH, 3), (GUARD, 2), (SWAP, 2)]:
            n = len(rule)
            found = {steps_form(rule, row) for row in rows_of(n, n * most)}
            for many in range(most + 1):
                for form in product(steps_for(n), repeat=many):
                    self.is_just(is_steps_form(rule, form), form in found)
                    if form in found:
                        self.is_just(steps_form(rule, row_of_steps(rule, form)), form)
                    else:
                        self.refuses(BadSteps, form, row_of_steps, rule, form)

    def test_forms_of_big_rules(self):
        for rule in RULES:
            n = len(rule)
            for one, other in product(steps_for(n)[::max(1, 2 ** n // 16)], repeat=2):
                row = put_together(rule, (one, other))
                wanted = steps_form(rule, row) == (one, other)
                self.is_just(is_steps_form(rule, (one, other)), wanted)
                self.is_just(is_steps_form(rule, ((1,) * n, one, other)), wanted)

    def test_wrong_forms(self):
        for rule in [GUARD, SWAP]:
            for form in WRONG_FORMS:
                self.says(False, is_steps_form, rule, form)
                self.refuses(BadSteps, form, row_of_steps, rule, form)
            right = steps_form(rule, (0, 1, 0, 2, 1))
            for form in spoiled(right):
                if type(form) is tuple and all(str(part) in map(str, steps_for(3)) for part in form):
                    wanted = steps_form(rule, put_together(rule, form)) == form
                else:
                    wanted = False
                self.says(wanted, is_steps_form, rule, form)
        for rule in RULES:
            n = len(rule)
            for form in [((1,) * n, (0,) * n), ((1,) * (n + 1),), [(1,) * n], ((1,) * n, [1] * n), ((True,) * n,), None]:
                self.says(False, is_steps_form, rule, form)
                self.refuses(BadSteps, form, row_of_steps, form=form, rule=rule)
            self.is_just((is_steps_form(rule, ()), row_of_steps(rule, ())), (True, ()))


class RightTests(Case):
    def test_greatest_steps_divide_from_the_right(self):
        for rule in [ONE, BOTH, GUARD, SWAP, mirror(GUARD)]:
            for row in rows_of(len(rule), 4):
                form = right_form(rule, row)
                self.is_just(are_alike(rule, put_together(rule, form), row), True)
                for k in range(len(form)):
                    self.is_just(is_step(rule, form[k]), True)
                    ahead, last = put_together(rule, form[:k + 1]), first_row(rule, form[k])
                    self.is_just(divides_right(rule, last, ahead), True)
                    for step in steps_for(len(rule)):
                        other = first_row(rule, step)
                        if divides_right(rule, other, ahead):
                            self.is_just(divides_right(rule, other, last), True)

    def test_by_the_mirror(self):
        for rule in RULES:
            seen = mirror(rule)
            rows = list(rows_of(len(rule), 2)) + longer_rows(len(rule))
            for row in rows:
                form = [first_row(seen, step)[::-1] for step in steps_form(seen, row[::-1])]
                wanted = tuple(plain_heap(rule, part) for part in reversed(form))
                self.is_just(right_form(rule, row), wanted)
                self.is_just(len(wanted), len(steps_form(rule, row)))
                if len(row) < 100:
                    self.is_just(are_alike(rule, put_together(rule, wanted), row), True)

    def test_by_hand(self):
        self.is_just(right_form(GUARD, (2, 0, 2)), ((0, 0, 1), (1, 0, 1)))
        self.is_just((right_form(ONE, (0, 0)), right_form(ONE, ()), right_form(GUARD, ())), (((1,), (1,)), (), ()))


class CallTests(Case):
    def test_by_name(self):
        self.is_just(steps_form(row=(2, 0, 2), rule=GUARD), ((0, 1, 1), (0, 0, 1)))
        self.is_just(right_form(row=(2, 0, 2), rule=GUARD), ((0, 0, 1), (1, 0, 1)))
        self.is_just(is_steps_form(thing=((1, 0, 1), (1, 1, 0)), rule=SWAP), True)
        self.is_just(row_of_steps(form=((1, 0, 1), (1, 1, 0)), rule=SWAP), (0, 1, 0, 2))

    def test_wrong_rules(self):
        for rule in WRONG_RULES:
            for tell in (full_row, full_turn, steps_of):
                self.refuses(BadRule, rule, tell, rule)
            for tell in (is_step, steps_form, right_form, is_steps_form, row_of_steps):
                self.refuses(BadRule, rule, tell, rule, ())
                self.refuses(BadRule, rule, tell, rule, [None])

    def test_wrong_rows(self):
        for rule in [ONE, BOTH, GUARD, beside(GUARD, SWAP), shifted(8)]:
            for row in wrong_rows(len(rule)):
                self.refuses(BadRow, row, steps_form, rule, row)
                self.refuses(BadRow, row, right_form, rule, row)
