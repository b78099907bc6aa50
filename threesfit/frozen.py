"""The frozen number of a rule, and the finite world in which the rule lives."""

from math import gcd, lcm

from threesfit.basics import added, identity, is_below, is_kinds, is_whole, turned
from threesfit.errors import BadHeap, BadKind, BadNumber
from threesfit.motions import pair_inverse, pair_power, pair_product, turn_with_heap
from threesfit.orders import one_more
from threesfit.rules import left_turns, require_rule
from threesfit.stars import squares, stars_of
from threesfit.words import word_motion


def _require_kind(rule, kind):
    """Raise BadRule unless the rule is one, and BadKind unless the kind is one of it."""
    require_rule(rule)
    if not is_below(kind, len(rule)):
        raise BadKind(kind)


def power_row(rule, kind, k):
    """The row of so many kinds that begins with a kind and goes on with squares."""
    _require_kind(rule, kind)
    if not is_whole(k) or k < 0:
        raise BadNumber(k)
    following = squares(stars_of(rule))
    row = []
    x = kind
    for _ in range(k):
        row.append(x)
        x = following[x]
    return tuple(row)


def _period(lefts, x):
    """How many kinds the shortest power row of x has that is not empty and turns nothing."""
    turn = lefts[x]
    many = 1
    while turn != identity(len(lefts)):
        turn = one_more(lefts, turn, x)
        many += 1
    return many


def _periods(lefts):
    """The periods of all kinds, by their left turns: a power row turns nothing if its length is a multiple of one."""
    return [_period(lefts, x) for x in range(len(lefts))]


def _frozen(lefts):
    """The frozen number, by the left turns of the kinds."""
    number = 1
    for period in _periods(lefts):
        number = lcm(number, period)
    return number


def frozen_number(rule):
    """The frozen number of a rule."""
    require_rule(rule)
    return _frozen(left_turns(rule))


def _first_turning(periods, k):
    """The first kind whose power row of k kinds turns something."""
    return min([x for x, period in enumerate(periods) if k % period])


def judge_frozen(rule):
    """A certificate: kinds whose power rows turn something, for each length below the frozen number."""
    number = frozen_number(rule)
    periods = _periods(left_turns(rule))
    return ("frozen", tuple([_first_turning(periods, k) for k in range(1, number)]))


def frozen_holds(rule, thing):
    """Whether any value is a certificate for a rule."""
    number = frozen_number(rule)
    if not isinstance(thing, tuple) or len(thing) != 2 or thing[0] != "frozen":
        return False
    if not is_kinds(thing[1], len(rule)) or len(thing[1]) != number - 1:
        return False
    periods = _periods(left_turns(rule))
    return all([k % periods[x] for k, x in enumerate(thing[1], start=1)])


def _is_element(thing, n, number):
    """Whether any value is an element of a world for n kinds and a frozen number."""
    return is_kinds(thing, number) and len(thing) == n


def is_element(rule, thing):
    """Whether any value is an element of the world of a rule."""
    number = frozen_number(rule)
    return _is_element(thing, len(rule), number)


def _require_parts(rule, parts):
    """The frozen number; BadHeap is raised unless all parts are elements of the world, the first one first."""
    number = frozen_number(rule)
    for part in parts:
        if not _is_element(part, len(rule), number):
            raise BadHeap(part)
    return number


def _remainders(number, heap):
    """The element of a heap."""
    return tuple([many % number for many in heap])


def element_of(rule, word):
    """The element of the motion of a word."""
    heap, _ = word_motion(rule, word)
    return _remainders(_frozen(left_turns(rule)), heap)


def _world(n, number):
    """The ascending list of all elements of a world for n kinds and a frozen number."""
    world = [()]
    for _ in range(n):
        world = [part + (many,) for part in world for many in range(number)]
    return world


def world_elements(rule):
    """The ascending tuple of all elements of the world."""
    number = frozen_number(rule)
    return tuple(_world(len(rule), number))


def _motion(rule, heap):
    """The motion with what is known to be a heap."""
    return heap, turn_with_heap(left_turns(rule), heap)


def world_product(rule, one, other):
    """The product of two elements."""
    number = _require_parts(rule, [one, other])
    _, turn = _motion(rule, one)
    return _remainders(number, added(one, turned(turn, other)))


def world_inverse(rule, element):
    """The element whose product with an element is the element of zeros."""
    number = _require_parts(rule, [element])
    heap, _ = pair_inverse(_motion(rule, element))
    return _remainders(number, heap)


def world_power(rule, element, k):
    """An element to the power k."""
    number = _require_parts(rule, [element])
    if not is_whole(k):
        raise BadNumber(k)
    heap, _ = pair_power(_motion(rule, element), k)
    return _remainders(number, heap)


def world_order(rule, element):
    """The least k from 1 on such that the power k of an element is the element of zeros."""
    number = _require_parts(rule, [element])
    motion = _motion(rule, element)
    power = motion
    many = 1
    while power[1] != identity(len(rule)):
        power = pair_product(power, motion)
        many += 1
    # From here on powers only add up: this one is zeros as soon as the frozen number divides all of its sums.
    shared = number
    for times in power[0]:
        shared = gcd(shared, times)
    return many * (number // shared)


def moves(rule, kind):
    """The permutation of the numbers of all elements by which a kind moves them."""
    _require_kind(rule, kind)
    lefts = left_turns(rule)
    number = _frozen(lefts)
    world = _world(len(rule), number)
    positions = {part: at for at, part in enumerate(world)}
    heap = tuple([1 if y == kind else 0 for y in range(len(rule))])
    return tuple([positions[_remainders(number, added(heap, turned(lefts[kind], part)))] for part in world])
