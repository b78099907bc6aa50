"""Power rows, frozen numbers, and the world of a rule."""

from itertools import product

from tests.samples import (BOTH, CYCLE, DEEP, EIGHT_TURNS, GUARD, ONE, SIX_RULES, SMALL_RULES, STRANGE, STUCK, WRONG_NUMBERS,
                           WRONG_RULES, Case, beside, class_of, plain_frozen, plain_inverse, plain_motion, plain_product,
                           plain_row, plain_turn, plain_word_motion, rows_of, shifted, spoiled, wrong_kinds, wrong_words)
from threesfit.errors import BadHeap, BadKind, BadNumber, BadRule, BadWord
from threesfit.frozen import (element_of, frozen_holds, frozen_number, is_element, judge_frozen, moves, power_row,
                              world_elements, world_inverse, world_order, world_power, world_product)

RULES = SMALL_RULES + [shifted(5), beside(GUARD, BOTH)] + SIX_RULES
# Those with at most 1,000 elements.
SMALL_WORLDS = [rule for rule in RULES if plain_frozen(rule) ** len(rule) <= 1000]


def alone(n, x, k):
    """The heap with k at x and 0 elsewhere."""
    return (0,) * x + (k,) + (0,) * (n - x - 1)


def turns_nothing(rule, x, k):
    return plain_turn(rule, alone(len(rule), x, k)) == tuple(range(len(rule)))


def some_parts(rule):
    """Some elements of the world, or all of them where they are few."""
    n, d = len(rule), plain_frozen(rule)
    if d ** n <= 27:
        return list(product(range(d), repeat=n))
    return sorted({tuple((k * (2 * y + 3) + k // 3 + y * y) % d for y in range(n)) for k in range(9)} | {(0,) * n, (d - 1,) * n})


def plain_element(rule, heap):
    return tuple(many % plain_frozen(rule) for many in heap)


def element_product(rule, one, other):
    return plain_element(rule, plain_product((one, plain_turn(rule, one)), (other, plain_turn(rule, other)))[0])


class PowerRowTests(Case):
    def test_power_rows(self):
        for rule in RULES:
            n = len(rule)
            for x in range(n):
                for k in (0, 1, 2, 3, 5, 12, 60, 200, 207):
                    row = power_row(rule, x, k)
                    self.is_just(row, plain_row(rule, alone(n, x, k)))
                    self.is_just(plain_motion(rule, row)[0], alone(n, x, k))
                    if k < 6:
                        self.assertEqual(class_of(rule, row), {row})
        self.is_just(power_row(k=3, kind=0, rule=CYCLE), (0, 2, 1))

    def test_errors(self):
        for rule in RULES:
            for kind in wrong_kinds(len(rule)):
                self.refuses(BadKind, kind, power_row, rule, kind, 1)
                self.refuses(BadKind, kind, power_row, rule, kind, None)
                self.refuses(BadKind, kind, moves, rule, kind)
            for k in WRONG_NUMBERS + [-1, -10 ** 30]:
                self.refuses(BadNumber, k, power_row, rule, 0, k)
        self.refuses(BadNumber, DEEP, power_row, k=DEEP, kind=0, rule=BOTH)


class FrozenTests(Case):
    def test_frozen_numbers(self):
        for rule in RULES:
            d = frozen_number(rule)
            self.is_just(d, plain_frozen(rule))
            for k in range(1, 2 * d + 2):
                self.is_just(all(turns_nothing(rule, x, k) for x in range(len(rule))), k % d == 0)
            for heap in some_parts(rule)[:6]:
                for x, more in product(range(len(rule)), (d, -3 * d)):
                    other = heap[:x] + (heap[x] + more,) + heap[x + 1:]
                    self.is_just(plain_turn(rule, other), plain_turn(rule, heap))
        self.is_just([frozen_number(rule) for rule in [ONE, BOTH, GUARD, CYCLE, shifted(5), shifted(6)]], [1, 2, 2, 3, 5, 6])
        self.is_just(frozen_number(beside(shifted(4), CYCLE)), 12)
        self.is_just(frozen_number(rule=beside(BOTH, CYCLE)), 6)

    def test_certificates(self):
        for rule in RULES:
            d, n = plain_frozen(rule), len(rule)
            found = judge_frozen(rule)
            self.is_just([found[0], len(found), type(found[1]), len(found[1])], ["frozen", 2, tuple, d - 1])
            self.is_just(frozen_holds(rule, found), True)
            choices = [[x for x in range(n) if not turns_nothing(rule, x, k)] for k in range(1, d)]
            rights = list(product(*choices)) if n < 4 else [tuple(one[0] for one in choices), tuple(one[-1] for one in choices)]
            for kinds in rights:
                self.says(True, frozen_holds, rule, ("frozen", kinds))
                for at, x in product(range(d - 1), range(n)):
                    other = kinds[:at] + (x,) + kinds[at + 1:]
                    self.is_just(frozen_holds(rule, ("frozen", other)), x in choices[at])
                for other in (kinds + (0,), kinds[1:], kinds[:-1], kinds * 2 + (0,), kinds + kinds[:1] + kinds):
                    self.is_just(frozen_holds(rule, ("frozen", other)), len(other) == d - 1)

    def test_any_value(self):
        for rule in SMALL_RULES:
            d = plain_frozen(rule)
            for thing in list(spoiled(judge_frozen(rule))) + STRANGE + [("frozen",), ("frozen", (), ()), "frozen", ["frozen", ()], (), ("frozen", []),
                                                                      ("frozen", None), ("frozen", "0"), ((), "frozen"), {"frozen": ()},
                                                                      ("frozen", (True,)), ("frozen", (False,) * (d - 1))]:
                self.says(plain_frozen_holds(rule, thing), frozen_holds, rule, thing)
        self.is_just(frozen_holds(thing=("frozen", (0, 2)), rule=CYCLE), True)
        self.is_just(judge_frozen(rule=ONE), ("frozen", ()))


def plain_frozen_holds(rule, thing):
    """Whether any value is a certificate, by the words of the document."""
    if type(thing) is not tuple or len(thing) != 2 or thing[0] != "frozen" or type(thing[1]) is not tuple:
        return False
    if any(type(x) is not int or not 0 <= x < len(rule) for x in thing[1]):
        return False
    last = all(turns_nothing(rule, x, len(thing[1]) + 1) for x in range(len(rule)))
    return last and not any(turns_nothing(rule, x, k) for k, x in enumerate(thing[1], start=1))


class WorldTests(Case):
    def test_elements(self):
        for rule in SMALL_WORLDS:
            self.is_just(world_elements(rule), tuple(product(range(plain_frozen(rule)), repeat=len(rule))))
        self.is_just(world_elements(rule=ONE), ((0,),))

    def test_any_value_as_element(self):
        for rule in RULES:
            n, d = len(rule), plain_frozen(rule)
            for part in some_parts(rule):
                self.says(True, is_element, rule, part)
            for thing in wrong_elements(rule):
                self.says(False, is_element, rule, thing)
        self.is_just(is_element(thing=(0, 1), rule=BOTH), True)

    def test_elements_of_words(self):
        for rule in RULES:
            n = len(rule)
            for word in [(), (1,), (-n,), (1, 1, -n), (-1, -1, n), (n, -1) * 100, tuple((k * k % n + 1) * (-1) ** (k // 2) for k in range(200))]:
                self.is_just(element_of(rule, word), plain_element(rule, plain_word_motion(rule, word)[0]))
            for word in wrong_words(n):
                self.refuses(BadWord, word, element_of, rule, word)
        self.is_just(element_of(word=(1, 1, -2), rule=CYCLE), (1, 1, 2))

    def test_products(self):
        for rule in RULES:
            parts = some_parts(rule)
            for one, other in product(parts, repeat=2):
                self.is_just(world_product(rule, one, other), element_product(rule, one, other))
        self.is_just(world_product(other=(0, 1), one=(0, 1), rule=BOTH), (1, 1))

    def test_products_of_words(self):
        for rule in RULES:
            n = len(rule)
            words = [(), (1,), (-n,), (1, -n, -1), (n, n, 1), tuple((k * k % n + 1) * (-1) ** (k // 2) for k in range(20))]
            for one, other in product(words, repeat=2):
                found = world_product(rule, element_of(rule, one), element_of(rule, other))
                self.is_just(found, element_of(rule, one + other))

    def test_inverses(self):
        for rule in RULES:
            zeros = (0,) * len(rule)
            for part in some_parts(rule):
                other = world_inverse(rule, part)
                self.is_just(other, plain_element(rule, plain_inverse((part, plain_turn(rule, part)))[0]))
                self.is_just((element_product(rule, part, other), element_product(rule, other, part)), (zeros, zeros))
        self.is_just(world_inverse(element=(1, 0, 0), rule=CYCLE), (0, 0, 2))

    def test_powers_and_orders(self):
        for rule in RULES:
            n, d = len(rule), plain_frozen(rule)
            zeros = (0,) * n
            for part in some_parts(rule):
                powers = [zeros]
                while len(powers) == 1 or powers[-1] != zeros:
                    powers.append(element_product(rule, powers[-1], part))
                order = len(powers) - 1
                self.is_just(world_order(rule, part), order)
                self.is_just(d ** n % order, 0)
                for k in list(range(-order - 2, 2 * order + 2)) + [10 ** 30, 10 ** 30 - 7, -10 ** 30, -10 ** 39]:
                    self.is_just(world_power(rule, part, k), powers[k % order])
        self.is_just([world_order(CYCLE, (1, 0, 0)), world_order(BOTH, (0, 1)), world_order(ONE, (0,))], [9, 4, 1])
        self.is_just(world_order(element=(1, 1), rule=BOTH), 2)
        self.is_just(world_power(k=10 ** 30, element=(1, 0, 0), rule=CYCLE), (1, 0, 0))

    def test_alike_rows(self):
        for rule in [BOTH, GUARD, CYCLE]:
            d = plain_frozen(rule)
            rows = {}
            for row in rows_of(len(rule), 4):
                if max(plain_motion(rule, row)[0]) < d:
                    rows.setdefault(element_of(rule, tuple(x + 1 for x in row)), set()).add(row)
            for found in rows.values():
                self.assertEqual(class_of(rule, min(found)), found)

    def test_errors(self):
        for rule in RULES:
            right = some_parts(rule)[-1]
            for thing in wrong_elements(rule):
                for tell in (world_inverse, world_order):
                    self.refuses(BadHeap, thing, tell, rule, thing)
                self.refuses(BadHeap, thing, world_power, rule, thing, 1)
                self.refuses(BadHeap, thing, world_power, rule, thing, None)
                self.refuses(BadHeap, thing, world_product, rule, thing, right)
                self.refuses(BadHeap, thing, world_product, rule, right, thing)
                self.refuses(BadHeap, thing, world_product, rule, thing, [None])
            for k in WRONG_NUMBERS:
                self.refuses(BadNumber, k, world_power, rule, right, k)
        self.refuses(BadNumber, DEEP, world_power, k=DEEP, element=(0, 0), rule=BOTH)

    def test_wrong_rules(self):
        for rule in WRONG_RULES:
            for tell in (frozen_number, judge_frozen, world_elements):
                self.refuses(BadRule, rule, tell, rule)
            for tell in (frozen_holds, is_element, element_of, world_inverse, world_order, moves):
                self.refuses(BadRule, rule, tell, rule, 0)
                self.refuses(BadRule, rule, tell, rule, (0,))
                self.refuses(BadRule, rule, tell, rule, [None])
            for tell in (power_row, world_product, world_power):
                self.refuses(BadRule, rule, tell, rule, 0, 0)
                self.refuses(BadRule, rule, tell, rule, (0,), None)


def wrong_elements(rule):
    """Values that are no elements of the world of a rule."""
    n, d = len(rule), plain_frozen(rule)
    zeros = (0,) * n
    return [None, 0, True, "", "0", (), [], [0] * n, {}, zeros + (0,), zeros[1:], zeros[1:] + (d,), (d,) + zeros[1:], (-1,) + zeros[1:],
            zeros[1:] + (-1,), zeros[1:] + (False,), (True,) + zeros[1:], zeros[1:] + (None,), zeros[1:] + ("0",), ((0,),) + zeros[1:],
            ([0],) + zeros[1:], (10 ** 39,) + zeros[1:], (-10 ** 30,) + zeros[1:], (zeros,), DEEP, tuple(map(str, zeros))]


class MoveTests(Case):
    def test_moves(self):
        for rule in SMALL_WORLDS:
            n, d = len(rule), plain_frozen(rule)
            world = list(product(range(d), repeat=n))
            for x in range(n):
                found = moves(rule, x)
                self.is_just([type(found), sorted(found)], [tuple, list(range(d ** n))])
                part = plain_element(rule, alone(n, x, 1))
                for at in range(0, len(world), len(world) // 30 + 1):
                    self.is_just(world[found[at]], element_product(rule, part, world[at]))

    def test_meeting_kinds(self):
        for rule in SMALL_WORLDS:
            moved = [moves(rule, x) for x in range(len(rule))]
            for x, y in product(range(len(rule)), repeat=2):
                u, v = rule[x][y]
                self.is_just([moved[x][at] for at in moved[y]], [moved[u][at] for at in moved[v]])

    def test_products_of_moves(self):
        for rule in [BOTH, GUARD, CYCLE, STUCK, EIGHT_TURNS]:
            moved = [moves(rule, x) for x in range(len(rule))]
            for row in rows_of(len(rule), 4):
                found = range(len(moved[0]))
                for x in reversed(row):
                    found = [moved[x][at] for at in found]
                still = [at for at, to in enumerate(found) if at == to]
                self.assertIn(len(still), (0, len(found)))

    def test_by_hand(self):
        self.is_just([moves(BOTH, 0), moves(BOTH, 1), moves(ONE, 0)], [(2, 0, 3, 1), (1, 3, 0, 2), (0,)])
        self.is_just(moves(kind=0, rule=BOTH), (2, 0, 3, 1))
