"""Turns, still heaps, least heaps, and sums of turns."""

from itertools import product
from math import prod

from tests.samples import (BOTH, DEEP, EIGHT_TURNS, GUARD, ONE, SIX_RULES, SMALL_RULES, STRANGE, STUCK, WRONG_NUMBERS,
                           WRONG_RULES, Case, beside, plain_frozen, plain_turn, shifted, spoiled, wrong_signed_heaps)
from threesfit.errors import BadHeap, BadRule, BadTurn
from threesfit.orders import first_row
from threesfit.turns import (is_still, is_turn, judge_still, least_heap, reduced, row_of_turn, still_basis, still_holds,
                             sums_table, turn_opposite, turn_sum, turns_of)

RULES = SMALL_RULES + [shifted(5), beside(GUARD, BOTH)] + SIX_RULES


def closure(rule):
    """All permutations that left turns make one after the other."""
    lefts = [tuple(pair[0] for pair in line) for line in rule]
    found, todo = set(), [tuple(range(len(rule)))]
    while todo:
        turn = todo.pop()
        if turn not in found:
            found.add(turn)
            todo.extend(tuple(turn[y] for y in left) for left in lefts)
    return found


def some_heaps(n, most=2):
    """All heaps of few kinds with small numbers of any sign, and some with greater ones."""
    if n > 3:
        return [tuple((k * (7 * y + 3) + y * y) % 13 - 6 for y in range(n)) for k in range(40)]
    return list(product(range(-most, most + 1), repeat=n)) + [(1000,) * n, (-999,) * (n - 1) + (1000,), (0,) * (n - 1) + (-7,)]


def summed(basis, multipliers):
    return tuple(sum(many * heap[y] for many, heap in zip(multipliers, basis)) for y in range(len(basis)))


class TurnTests(Case):
    def test_all_turns(self):
        for rule in RULES:
            self.is_just(turns_of(rule), tuple(sorted(closure(rule))))
        self.is_just([len(turns_of(rule)) for rule in [ONE, BOTH, GUARD, STUCK, EIGHT_TURNS, shifted(6)]], [1, 2, 2, 8, 8, 6])

    def test_turns_of_heaps(self):
        for rule in RULES:
            turns = turns_of(rule)
            for heap in some_heaps(len(rule)):
                self.assertIn(plain_turn(rule, heap), turns)

    def test_any_value_as_turn(self):
        for rule in RULES:
            turns = closure(rule)
            n = len(rule)
            for thing in product(range(n), repeat=n) if n < 5 else [tuple(range(n)), (0,) * n, tuple(range(n))[::-1]]:
                self.is_just(is_turn(rule, thing), thing in turns)
            for turn in sorted(turns)[-2:]:
                for thing in spoiled(turn):
                    self.says(plain_is_turn(thing, turns), is_turn, rule, thing)
            for thing in STRANGE + [turns_of(rule), (n,) * n, [*range(n)], tuple(map(str, range(n))), tuple(range(n + 1))]:
                self.says(plain_is_turn(thing, turns), is_turn, rule, thing)
        self.is_just(is_turn(thing=(0, 1, 2), rule=GUARD), True)


def plain_is_turn(thing, turns):
    return type(thing) is tuple and {type(part) for part in thing} == {int} and thing in turns


class StillTests(Case):
    def test_basis(self):
        for rule in RULES:
            n = len(rule)
            basis = still_basis(rule)
            self.is_just([type(basis), len(basis)], [tuple, n])
            for i, heap in enumerate(basis):
                self.is_just([type(heap), [type(part) for part in heap]], [tuple, [int] * n])
                self.is_just(plain_turn(rule, heap), tuple(range(n)))
                self.is_just(heap[:i], (0,) * i)
                self.assertGreater(heap[i], 0)
                self.is_just(all(0 <= heap[j] < basis[j][j] for j in range(i + 1, n)), True)
            self.is_just(prod(basis[i][i] for i in range(n)), len(closure(rule)))

    def test_basis_by_hand(self):
        self.is_just(still_basis(ONE), ((1,),))
        self.is_just(still_basis(BOTH), ((1, 1), (0, 2)))
        self.is_just(still_basis(GUARD), ((1, 0, 0), (0, 1, 0), (0, 0, 2)))
        self.is_just(still_basis(shifted(5)), ((1, 0, 0, 0, 4), (0, 1, 0, 0, 4), (0, 0, 1, 0, 4), (0, 0, 0, 1, 4), (0, 0, 0, 0, 5)))

    def test_still_heaps(self):
        for rule in RULES:
            n = len(rule)
            basis = still_basis(rule)
            for heap in some_heaps(n):
                turn = plain_turn(rule, heap)
                still = turn == tuple(range(n))
                self.is_just(is_still(rule, heap), still)
                found = judge_still(rule, heap)
                self.is_just(still_holds(rule, heap, found), True)
                if still:
                    self.is_just([found[0], len(found), summed(basis, found[1])], ["still", 2, heap])
                else:
                    self.is_just([found[0], len(found), turn[found[1]]], ["turns", 3, found[2]])
                    self.assertNotEqual(found[1], found[2])

    def test_equal_turns(self):
        for rule in [ONE, BOTH, GUARD, STUCK]:
            heaps = some_heaps(len(rule), 1)
            for one, other in product(heaps, repeat=2):
                less = tuple(a - b for a, b in zip(one, other))
                self.is_just(is_still(rule, less), plain_turn(rule, one) == plain_turn(rule, other))

    def test_certificates(self):
        for rule in SMALL_RULES:
            n = len(rule)
            basis = still_basis(rule)
            for heap in some_heaps(n, 1)[:12] + [(0,) * n, (plain_frozen(rule),) + (0,) * (n - 1)]:
                turn = plain_turn(rule, heap)
                for kind, to in product(range(-1, n + 1), repeat=2):
                    wanted = 0 <= kind < n and turn[kind] == to != kind
                    self.is_just(still_holds(rule, heap, ("turns", kind, to)), wanted)
                for multipliers in product(range(-2, 3), repeat=n) if n < 4 else [(0,) * n, (1,) * n]:
                    self.is_just(still_holds(rule, heap, ("still", multipliers)), summed(basis, multipliers) == heap)
                right = judge_still(rule, heap)
                for thing in STRANGE + [("turns",), ("still",)] + [thing for thing in spoiled(right) if repr(thing) != repr(right)]:
                    wanted = plain_still_holds(basis, turn, heap, thing)
                    self.says(wanted, still_holds, rule, heap, thing)
        self.is_just(still_holds(BOTH, (3, -1), ("still", (3, -2))), True)
        self.is_just(still_holds(BOTH, (10 ** 39, 10 ** 39), ("still", (10 ** 39, 0))), True)
        self.is_just(still_holds(ONE, (1,), ("still", (True,))), False)
        self.is_just(still_holds(BOTH, (1, 0), ("turns", True, 0)), False)
        self.is_just(still_holds(BOTH, (1, 0), ("turns", 0, True)), False)

    def test_by_name(self):
        self.is_just((still_basis(rule=BOTH), is_still(heap=(3, -1), rule=BOTH)), (((1, 1), (0, 2)), True))
        self.is_just(judge_still(heap=(3, -1), rule=BOTH), ("still", (3, -2)))
        self.is_just(still_holds(thing=("turns", 1, 0), heap=(1, 0), rule=BOTH), True)
        self.is_just(reduced(heap=(-1, 0, 5, 1), rule=EIGHT_TURNS), (0, 1, 0, 0))


def plain_still_holds(basis, turn, heap, thing):
    """Whether any value is a certificate, by the words of the document."""
    n = len(basis)
    if type(thing) is not tuple or not thing:
        return False
    if thing[0] == "still" and len(thing) == 2 and type(thing[1]) is tuple and len(thing[1]) == n:
        return all(type(part) is int for part in thing[1]) and summed(basis, thing[1]) == heap
    if thing[0] == "turns" and len(thing) == 3 and [type(part) for part in thing[1:]] == [int, int]:
        return 0 <= thing[1] < n and thing[1] != thing[2] == turn[thing[1]]
    return False


class LeastTests(Case):
    def test_least_heaps(self):
        for rule in RULES:
            n, basis = len(rule), still_basis(rule)
            pivots = [basis[i][i] for i in range(n)]
            heaps = {}
            for heap in product(*map(range, pivots)):
                heaps.setdefault(plain_turn(rule, heap), heap)
            for turn in turns_of(rule):
                self.is_just(least_heap(rule, turn), heaps[turn])
                self.is_just(row_of_turn(rule, turn), first_row(rule, heaps[turn]))
            for heap in some_heaps(n):
                self.is_just(reduced(rule, heap), heaps[plain_turn(rule, heap)])

    def test_no_lesser_heap(self):
        for rule in SMALL_RULES[:6]:
            number = plain_frozen(rule)
            heaps = sorted(product(range(number), repeat=len(rule)), reverse=True)
            wanted = {plain_turn(rule, heap): heap for heap in heaps}
            self.is_just({turn: least_heap(rule, turn) for turn in turns_of(rule)}, {turn: wanted[turn] for turn in turns_of(rule)})

    def test_by_name(self):
        self.is_just(least_heap(turn=(0, 1, 3, 2), rule=EIGHT_TURNS), (0, 1, 1, 1))
        self.is_just(row_of_turn(turn=(3, 2, 1, 0), rule=EIGHT_TURNS), (1, 0))


class SumTests(Case):
    def test_sums(self):
        for rule in RULES:
            turns = turns_of(rule)
            heaps = [least_heap(rule, turn) for turn in turns]
            table = sums_table(rule)
            self.is_just([type(table), {type(line) for line in table}], [tuple, {tuple}])
            self.is_just([len(table), {len(line) for line in table}], [len(turns), {len(turns)}])
            for i, j in product(range(0, len(turns), len(turns) // 10 + 1), repeat=2):
                wanted = plain_turn(rule, tuple(a + b for a, b in zip(heaps[i], heaps[j])))
                self.is_just(turn_sum(rule, turns[i], turns[j]), wanted)
                self.is_just(turns[table[i][j]], wanted)

    def test_sums_of_all_heaps(self):
        for rule in [BOTH, GUARD, STUCK, EIGHT_TURNS]:
            heaps = some_heaps(len(rule), 1)[::3]
            for one, other in product(heaps, repeat=2):
                total = tuple(a + b for a, b in zip(one, other))
                found = turn_sum(rule, plain_turn(rule, one), plain_turn(rule, other))
                self.is_just(found, plain_turn(rule, total))

    def test_group(self):
        for rule in RULES:
            turns, table = turns_of(rule), sums_table(rule)
            self.is_just(table[0], tuple(range(len(turns))))
            for turn in turns:
                other = turn_opposite(rule, turn)
                self.is_just(other, plain_turn(rule, tuple(-many for many in least_heap(rule, turn))))
                self.is_just(table[turns.index(turn)][turns.index(other)], 0)
            for i, j in product(range(len(turns)), repeat=2):
                self.assertEqual(table[i][j], table[j][i])
            for line in table:
                self.assertEqual(sorted(line), list(range(len(turns))))

    def test_products_and_sums(self):
        for rule in RULES:
            turns, table = turns_of(rule)[:12], sums_table(rule)
            numbers = {turn: at for at, turn in enumerate(turns_of(rule))}
            for r, s, t in product(turns, repeat=3):
                both = turns_of(rule)[table[numbers[s]][numbers[t]]]
                behind, first, last = (numbers[tuple(r[y] for y in turn)] for turn in (both, s, t))
                self.assertEqual(table[behind][numbers[r]], table[first][last])

    def test_by_name(self):
        self.is_just(turn_sum(other=(1, 0, 2, 3), one=(0, 1, 3, 2), rule=EIGHT_TURNS), (3, 2, 1, 0))
        self.is_just(turn_opposite(turn=(1, 0), rule=BOTH), (1, 0))
        self.is_just((turns_of(rule=BOTH), sums_table(rule=BOTH)), (((0, 1), (1, 0)), ((0, 1), (1, 0))))


class WrongTests(Case):
    def test_wrong_rules(self):
        for rule in WRONG_RULES:
            for tell in (turns_of, still_basis, sums_table):
                self.refuses(BadRule, rule, tell, rule)
            for tell in (is_turn, is_still, judge_still, reduced, least_heap, row_of_turn, turn_opposite):
                self.refuses(BadRule, rule, tell, rule, (0,))
                self.refuses(BadRule, rule, tell, rule, [None])
            for tell in (still_holds, turn_sum):
                self.refuses(BadRule, rule, tell, rule, (0,), None)

    def test_wrong_heaps(self):
        for rule in [ONE, BOTH, GUARD, STUCK, SIX_RULES[1]]:
            for heap in wrong_signed_heaps(len(rule)):
                for tell in (is_still, judge_still, reduced):
                    self.refuses(BadHeap, heap, tell, rule, heap)
                self.refuses(BadHeap, heap, still_holds, rule, heap, ("still", (0,) * len(rule)))
                self.refuses(BadHeap, heap, still_holds, rule, heap, None)

    def test_wrong_turns(self):
        for rule in [ONE, BOTH, GUARD, STUCK, SIX_RULES[1]]:
            n = len(rule)
            turns = closure(rule)
            right = max(turns)
            wrong = [thing for thing in list(spoiled(right)) + STRANGE + WRONG_NUMBERS + [(0,) * n, tuple(range(n + 1))]
                     if not plain_is_turn(thing, turns)]
            wrong += [t for t in [(1, 0, 2), (0, 2, 1), (1, 2, 0), (1, 0, 2, 3), (0, 1, 2, 3, 5, 4)] if len(t) == n and t not in turns]
            for turn in wrong:
                for tell in (least_heap, row_of_turn, turn_opposite):
                    self.refuses(BadTurn, turn, tell, rule, turn)
                self.refuses(BadTurn, turn, turn_sum, rule, turn, right)
                self.refuses(BadTurn, turn, turn_sum, rule, right, turn)
                self.refuses(BadTurn, turn, turn_sum, rule, turn, [None])
        self.refuses(BadTurn, DEEP, turn_sum, other=DEEP, one=(1, 0), rule=BOTH)
