"""What several tests need: rules, wrong values, and plain ways to find the right answers."""

import copy
import unittest
from itertools import product

# The rules of the document.
ONE = (((0, 0),),)
CALM = (((0, 0), (1, 0)), ((0, 1), (1, 1)))
BOTH = (((1, 1), (0, 1)), ((1, 0), (0, 0)))
GUARD = (((0, 0), (1, 0), (2, 1)), ((0, 1), (1, 1), (2, 0)), ((1, 2), (0, 2), (2, 2)))
SWAP = (((0, 0), (2, 0), (1, 0)), ((0, 2), (1, 1), (2, 1)), ((0, 1), (1, 2), (2, 2)))
CYCLE = (((1, 2), (2, 2), (0, 2)), ((1, 0), (2, 0), (0, 0)), ((1, 1), (2, 1), (0, 1)))
STUCK = (((0, 0), (1, 3), (3, 1), (2, 2)), ((2, 3), (3, 0), (1, 2), (0, 1)),
         ((3, 2), (2, 1), (0, 3), (1, 0)), ((1, 1), (0, 2), (2, 0), (3, 3)))
EIGHT_TURNS = (((0, 0), (1, 2), (3, 3), (2, 1)), ((3, 2), (2, 0), (0, 1), (1, 3)),
               ((1, 1), (0, 3), (2, 2), (3, 0)), ((2, 3), (3, 1), (1, 0), (0, 2)))
# Up to names this is the other stuck rule of four kinds, beside the two above, which are one up to names.
STUCK_TOO = (((1, 1), (2, 2), (3, 0), (0, 3)), ((3, 3), (0, 0), (1, 2), (2, 1)),
             ((2, 0), (1, 3), (0, 1), (3, 2)), ((0, 2), (3, 1), (2, 3), (1, 0)))

# A table with faults of one kind alone, and others with faults of two or more kinds.
ONLY_TWICE = (((0, 1), (1, 1)), ((0, 0), (1, 0)))
ONLY_THREE = (((0, 0), (2, 2), (1, 0)), ((0, 2), (2, 0), (1, 2)), ((1, 1), (2, 1), (0, 1)))
LEFT_AND_RIGHT = (((0, 0), (0, 1)), ((1, 0), (1, 1)))
RIGHT_AND_THREE = (((0, 0), (1, 1)), ((1, 0), (0, 1)))
LEFT_AND_THREE = (((0, 0), (0, 1)), ((1, 1), (1, 0)))
ALL_FAULTS = (((0, 0), (0, 0)), ((0, 0), (0, 1)))


def shifted(n):
    """The table of n kinds in which x y meets to y + 1 and x - 1, for any number n."""
    return tuple(tuple(((y + 1) % n, (x - 1) % n) for y in range(n)) for x in range(n))


def beside(one, other):
    """Two rules put together; kinds of both only change places."""
    n, m = len(one), len(other)

    def pair(x, y):
        if x < n and y < n:
            return one[x][y]
        if x >= n and y >= n:
            u, v = other[x - n][y - n]
            return u + n, v + n
        return y, x

    return tuple(tuple(pair(x, y) for y in range(n + m)) for x in range(n + m))


def plain_renamed(rule, p):
    """The rule in which p[x] and p[y] meet to p[u] and p[v] where x and y meet to u and v."""
    found = {(p[x], p[y]): (p[pair[0]], p[pair[1]]) for x, line in enumerate(rule) for y, pair in enumerate(line)}
    return tuple(tuple(found[x, y] for y in range(len(rule))) for x in range(len(rule)))


def led(t):
    """The rule in which x y meets to t[y] and to what t turns to x."""
    return tuple(tuple((t[y], t.index(x)) for y in range(len(t))) for x in range(len(t)))


# The full turn of the last rule turns three kinds around, so it is not its own inverse.
SMALL_RULES = [ONE, CALM, BOTH, GUARD, SWAP, CYCLE, STUCK, EIGHT_TURNS, STUCK_TOO, led((1, 2, 0, 3))]
BIG_RULES = [shifted(5), beside(GUARD, CYCLE), beside(STUCK, SWAP), beside(STUCK, EIGHT_TURNS), shifted(8)]
RULES = SMALL_RULES + BIG_RULES
SIX_RULES = [shifted(6), beside(GUARD, SWAP), beside(STUCK, BOTH), beside(STUCK_TOO, BOTH), led((1, 2, 0, 4, 5, 3))]
NO_RULES = [ONLY_TWICE, ONLY_THREE, LEFT_AND_RIGHT, RIGHT_AND_THREE, LEFT_AND_THREE, ALL_FAULTS]

DEEP = ((((((((0,),),),),),),),)

# None of these is a table, a grid, a kind, a place, a certificate, or a text.
STRANGE = [None, True, False, -1, -10 ** 30, 10 ** 39, "", "0", "rule", "stars", "00\n", [], [0], [[0]], {}, {0: 0},
           {"rule": ()}, ((),), ((0,), [0]), ("rule",), ("stars", 0), ([],), ({},), (None,), ("0",), (True,), (False,),
           (-1,), (9,), ((0, 0),), DEEP, [DEEP], {"rule": [DEEP]}, ((((0, 0),),),), [(((0, 0),),)], ("rule", "rule")]

WRONG_TABLES = STRANGE + [(), 0, 1, (0,), (0, 1), shifted(9), (((0, 1),),), (((0, -1),),), (((0,),),), (((0, 0, 0),),),
                          (((False, 0),),), (((0, False),),), (([0, 0],),), ([(0, 0)],), [((0, 0),)], (((0, "0"),),),
                          (((0, 0), (0, 0)),), (((0, 0),), ((0, 0),)), (((0, 0), (1, 0)), ((0, 1), (True, 1))),
                          (((0, 0), (1, 0)), ((0, 1), (2, 1))), (((0, 0), (1, 0)), ((0, 1), [1, 1])),
                          (((0, 0), (1, 0)), ((0, 1),)), ((), ()), ({}, {}), (CALM, CALM), "00 10\n01 11"]
WRONG_RULES = WRONG_TABLES + NO_RULES


def wrong_kinds(n):
    """Values that are no kinds of the size n."""
    return STRANGE + [n, 8, (), (0,), [], "1", {0: 1}, (0, 0)]


def wrong_rows(n):
    """Values that are no tuples of kinds of the size n."""
    return [None, True, False, 0, 1, "", "0", "01", [], [0], [0, 0], {}, {0: 0}, (True,), (0, False), (n,), (0, n), (-1,),
            (0, 0, -1), (10 ** 39,), ("0",), ("",), (None,), ((0,),), ((),), ([0],), ([],), ({},), (0, (0,)), (0, [0]), DEEP,
            (0,) * 59 + (True,), (0,) * 70 + (n,), [(0,)], CALM]


def wrong_places(many):
    """Values that are no integers from 0 to many - 1."""
    return [None, True, False, -1, many, many + 1, 10 ** 39, -10 ** 30, "", "0", (), (0,), [], [0], {}, {0: 0}, DEEP]


WRONG_NUMBERS = [None, True, False, "", "0", "5", (), (0,), [], [0], {}, {0: 0}, DEEP]
WRONG_COUNTS = [None, True, False, -1, -10 ** 30, "", "0", "5", (), (0,), [], [0], {}, {0: 0}, DEEP]


def wrong_heaps(n):
    """Values that are no heaps of n integers from 0 on."""
    zeros = (0,) * n
    return [None, True, 0, n, "", "0" * n, (), [], [0] * n, {}, {k: 0 for k in range(n)}, zeros + (0,), zeros[1:],
            zeros[1:] + (True,), zeros[1:] + (False,), (-1,) + zeros[1:], zeros[1:] + (-10 ** 30,), zeros[1:] + (None,),
            zeros[1:] + ("0",), zeros[1:] + ((0,),), zeros[1:] + ([0],), (zeros,), DEEP]


def plain_is_heap(thing, n):
    """Whether any value is a tuple of n integers."""
    return type(thing) is tuple and [type(part) for part in thing] == [int] * n


def wrong_signed_heaps(n):
    """Values that are no heaps of n integers of any sign."""
    return [thing for thing in wrong_heaps(n) if not plain_is_heap(thing, n)]


def wrong_motions(rule):
    """Values that are no motions of a rule."""
    n = len(rule)
    heap, turn = plain_kind_motion(rule, n - 1)
    others = [((0,) * n, tuple(range(1, n)) + (0,)), (heap, turn[::-1]), ((1,) * n, tuple(range(n)))]
    wrong = [other for other in others if other != plain_motion(rule, plain_row(rule, other[0]))]
    return wrong + STRANGE + [turn, heap, (), (heap,), (heap, turn, turn), [heap, turn], (list(heap), turn), (heap, list(turn)),
                              (heap[1:], turn[1:]), (heap + (0,), turn + (n,)), (heap, turn[1:]), (heap, turn + (n,)), (heap, (n,) * n),
                              (heap[:-1] + (True,), turn), (heap, (False,) + turn[1:]), (heap[:-1] + ("1",), turn),
                              (heap, (None,) * n), ((0, 0), (0, 0)), {0: heap, 1: turn}, "motion"]


def plain_inverse(pair):
    """The inverse of a pair, by the words of the document."""
    heap, t = pair
    return tuple(-heap[t[y]] for y in range(len(t))), tuple(t.index(y) for y in range(len(t)))


def plain_word_motion(rule, word):
    """The motion of a word: the product of the motions of its letters."""
    found = ((0,) * len(rule), tuple(range(len(rule))))
    for letter in word:
        motion = plain_kind_motion(rule, abs(letter) - 1)
        found = plain_product(found, motion if letter > 0 else plain_inverse(motion))
    return found


def plain_is_word(thing, n):
    """Whether any value is a word for n kinds."""
    return type(thing) is tuple and all(type(part) is int and part and -n <= part <= n for part in thing)


def wrong_letters(n):
    """Values that are no letters for n kinds."""
    return [thing for thing in STRANGE if thing != -1] + [0, n + 1, -n - 1, (), (1,), "1", [1], {1: 1}]


def wrong_words(n):
    """Values that are no words for n kinds."""
    return [None, True, 1, -1, "", "1", "-1", [], [1], [1, -1], {}, {1: 1}, (0,), (1, 0), (0, 1), (n + 1,), (-n - 1,), (1, n + 1),
            (True,), (1, True), (-1, False), (1, "1"), ("",), (None,), ((1,),), ((),), (1, [1]), ([],), ({},), (10 ** 39,),
            (-10 ** 30,), DEEP, (1,) * 200 + (True,), (1, -1) * 100 + (0,), [(1,)], CALM]


def plain_row(rule, heap):
    """A row with a heap without numbers below 0."""
    row, turn = [], tuple(range(len(rule)))
    for y, many in enumerate(heap):
        for _ in range(many):
            row.append(turn.index(y))
            turn = tuple(turn[rule[row[-1]][k][0]] for k in range(len(rule)))
    return tuple(row)


def plain_frozen(rule):
    """The least k such that k kinds more at any one place change no turn."""
    k = 1
    while True:
        rows = [plain_row(rule, (0,) * x + (k,) + (0,) * (len(rule) - x - 1)) for x in range(len(rule))]
        if all(plain_motion(rule, row)[1] == tuple(range(len(rule))) for row in rows):
            return k
        k += 1


def plain_turn(rule, heap):
    """The turn of a heap of any sign."""
    number = plain_frozen(rule)
    return plain_motion(rule, plain_row(rule, tuple(many % number for many in heap)))[1]


def spoiled(value):
    """Values that come from one that is built from tuples, kinds and strings by spoiling one part of it."""
    if isinstance(value, tuple):
        yield from (list(value), dict(enumerate(value)), value + (0,), value + (None,))
        for k, part in enumerate(value):
            for other in spoiled(part):
                yield value[:k] + (other,) + value[k + 1:]
            yield value[:k] + value[k + 1:]
            yield value[:k] + (part, part) + value[k + 1:]
    elif isinstance(value, str):
        yield from (None, 0, "", value + " ", value.upper(), [value], (value,), {value: value})
    else:
        yield from (None, str(value), [value], (value,), {value: value}, -1, 9, 10 ** 30)
        if value < 2:
            yield bool(value)


def met_at(table, row, place):
    """The row behind a meeting, for a list or a tuple of kinds."""
    pair = table[row[place]][row[place + 1]]
    return tuple(row[:place]) + tuple(pair) + tuple(row[place + 2:])


def class_of(rule, row):
    """All rows to which meetings lead from a row."""
    found, todo = {row}, [row]
    while todo:
        here = todo.pop()
        for place in range(len(row) - 1):
            other = met_at(rule, here, place)
            if other not in found:
                found.add(other)
                todo.append(other)
    return found


def are_plainly_alike(rule, one, other):
    """Whether meetings lead from a row to another one."""
    return len(one) == len(other) and other in class_of(rule, one)


def distances_from(rule, row):
    """All rows to which meetings lead from a row, each with the least number of meetings."""
    found, ring = {row: 0}, [row]
    while ring:
        further = []
        for here in ring:
            for place in range(len(row) - 1):
                other = met_at(rule, here, place)
                if other not in found:
                    found[other] = found[here] + 1
                    further.append(other)
        ring = further
    return found


def rows_of(n, most):
    """All rows of n kinds with at most so many items."""
    for many in range(most + 1):
        yield from product(range(n), repeat=many)


def long_rows(n):
    """Rows of n kinds with 60 items, and with more."""
    return [tuple(k * k % n for k in range(60)), tuple((k * 5 + k // 3) % n for k in range(61)), (n - 1,) * 200]


def plain_product(one, other):
    """The product of two pairs, by the words of the document."""
    (heap, t), (more, s) = one, other
    found = list(heap)
    for y, many in enumerate(more):
        found[t[y]] += many
    return tuple(found), tuple(t[s[y]] for y in range(len(t)))


def plain_kind_motion(rule, x):
    """The motion of a kind."""
    return tuple(int(y == x) for y in range(len(rule))), tuple(pair[0] for pair in rule[x])


def plain_motion(rule, row):
    """The motion of a row: the product of the motions of its items."""
    found = ((0,) * len(rule), tuple(range(len(rule))))
    for x in row:
        found = plain_product(found, plain_kind_motion(rule, x))
    return found


def plain_heap(rule, row):
    """The heap of a row."""
    return plain_motion(rule, row)[0]


def plain_is_pair(thing):
    """Whether any value is a pair of a size from 1 to 8."""
    if type(thing) is not tuple or len(thing) != 2 or {type(part) for part in thing} != {tuple}:
        return False
    whole = all(type(k) is int for part in thing for k in part)
    return whole and 1 <= len(thing[0]) <= 8 and sorted(thing[1]) == list(range(len(thing[0])))


def faults_of(table):
    """All faults of a table, by the words of the document."""
    n = len(table)
    found = set()
    for x, y in product(range(n), repeat=2):
        if met_at(table, met_at(table, (x, y), 0), 0) != (x, y):
            found.add(("twice", x, y))
    for x, y, z in product(range(n), repeat=3):
        if y < z and table[x][y][0] == table[x][z][0]:
            found.add(("left", x, y, z))
        if y < z and table[y][x][1] == table[z][x][1]:
            found.add(("right", x, y, z))
        ends = []
        for places in ((0, 1, 0), (1, 0, 1)):
            row = (x, y, z)
            for place in places:
                row = met_at(table, row, place)
            ends.append(row)
        if ends[0] != ends[1]:
            found.add(("three", x, y, z))
    return found


class Case(unittest.TestCase):
    """A test case that can check which error is raised, with which value, and that no argument changes."""

    def refuses(self, error, thing, function, *values, **named):
        """Check that a call raises an error of just this class that carries just this value."""
        before = copy.deepcopy((values, named))
        with self.assertRaises(error) as caught:
            function(*values, **named)
        self.assertIs(caught.exception.__class__, error)
        self.assertIs(caught.exception.thing, thing)
        self.assertEqual(repr((values, named)), repr(before))

    def refuses_plainly(self, error, function, *values, **named):
        """Check that a call raises an error of just this class that carries nothing."""
        with self.assertRaises(error) as caught:
            function(*values, **named)
        self.assertIs(caught.exception.__class__, error)
        self.assertEqual(vars(caught.exception), {})

    def says(self, wanted, function, *values):
        """Check that a call returns a certain value, and changes no argument."""
        before = copy.deepcopy(values)
        self.is_just(function(*values), wanted)
        self.assertEqual(repr(values), repr(before))

    def is_just(self, found, wanted):
        """Check that a value is a certain one, bools, integers, tuples and lists being told apart."""
        self.assertEqual(repr(found), repr(wanted))
