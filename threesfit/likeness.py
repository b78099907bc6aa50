"""Alike rows: certificates, fewest meetings, and the rows of a class."""

from math import factorial

from threesfit.basics import is_below, is_heap, is_whole
from threesfit.errors import BadPlace, NotAlike
from threesfit.orders import (counts, heap_of, order_and_turn, order_of, require_counts, require_rows, row_with_order)
from threesfit.rules import left_turns


def _both_orders(rule, one, other):
    """The orders of two rows, which are checked first."""
    require_rows(rule, one, other)
    lefts = left_turns(rule)
    order, _ = order_and_turn(lefts, one)
    wanted, _ = order_and_turn(lefts, other)
    return order, wanted


def _both_heaps(rule, one, other):
    """The heaps of two rows, which are checked first."""
    order, wanted = _both_orders(rule, one, other)
    return counts(order, len(rule)), counts(wanted, len(rule))


def are_alike(rule, one, other):
    """Whether two rows are alike."""
    heap, wanted = _both_heaps(rule, one, other)
    return heap == wanted


def _aims(order, wanted):
    """Where each item of an order stands in another order with the same heap, equal items in their order."""
    places = {y: [at for at, z in enumerate(wanted) if z == y] for y in order}
    return [places[y][order[:at].count(y)] for at, y in enumerate(order)]


def fewest_meetings(order, wanted):
    """As few places as can be, at which meetings lead from one order to another one with the same heap."""
    aims = _aims(order, wanted)
    places = []
    # Each exchange puts two items right that stood in opposite orders, so none is too many.
    for end in range(1, len(order)):
        at = end
        while at > 0 and aims[at - 1] > aims[at]:
            at -= 1
            aims[at], aims[at + 1] = aims[at + 1], aims[at]
            places.append(at)
    return tuple(places)


def judge_alike(rule, one, other):
    """A certificate: the fewest meetings that lead from one row to another one, or their unequal heaps."""
    order, wanted = _both_orders(rule, one, other)
    heaps = counts(order, len(rule)), counts(wanted, len(rule))
    if heaps[0] != heaps[1]:
        return ("heaps",) + heaps
    return ("meetings", fewest_meetings(order, wanted))


def _meetings_lead(rule, one, other, places):
    """Whether meetings at any value in place of the tuple of places lead from one row to another one."""
    if not isinstance(places, tuple) or not all([is_below(place, len(one) - 1) for place in places]):
        return False
    row = list(one)
    for place in places:
        row[place], row[place + 1] = rule[row[place]][row[place + 1]]
    return tuple(row) == other


def alike_holds(rule, one, other, thing):
    """Whether any value is a certificate for two rows."""
    heaps = _both_heaps(rule, one, other)
    if not isinstance(thing, tuple) or not 2 <= len(thing) <= 3:
        return False
    if len(thing) == 2:
        return thing[0] == "meetings" and _meetings_lead(rule, one, other, thing[1])
    if thing[0] != "heaps" or not all([is_heap(part, len(rule)) for part in thing[1:]]):
        return False
    return heaps[0] != heaps[1] and thing[1:] == heaps


def distance(rule, one, other):
    """The least number of meetings that lead from one row to another one."""
    order, wanted = _both_orders(rule, one, other)
    if counts(order, len(rule)) != counts(wanted, len(rule)):
        raise NotAlike()
    return len(fewest_meetings(order, wanted))


def _many_rows(heap):
    """How many rows the class with a heap has."""
    many = factorial(sum(heap))
    for times in heap:
        many //= factorial(times)
    return many


def _many_by_first(heap):
    """The list that tells how many orders with a heap begin with each kind."""
    many = _many_rows(heap)
    # Each item that can stand first does so in its share of the orders; this division leaves no remainder.
    return [many * times // sum(heap) for times in heap]


def many_alike(rule, row):
    """How many rows are alike to a row, itself included."""
    return _many_rows(heap_of(rule, row))


def number_of(rule, row):
    """The number of a row in its class."""
    order = order_of(rule, row)
    left = list(counts(order, len(rule)))
    number = 0
    for y in order:
        number += sum(_many_by_first(left)[:y])
        left[y] -= 1
    return number


def row_at(rule, heap, number):
    """The row with a number in the class with a heap."""
    require_counts(rule, heap)
    if not is_whole(number) or number < 0 or number >= _many_rows(heap):
        raise BadPlace(number)
    left = list(heap)
    behind = number
    order = []
    while any(left):
        y = 0
        shares = _many_by_first(left)
        while behind >= shares[y]:
            behind -= shares[y]
            y += 1
        order.append(y)
        left[y] -= 1
    return row_with_order(left_turns(rule), order)


def class_of(rule, row):
    """The tuple of the rows of a class, in the order of their numbers."""
    heap = heap_of(rule, row)
    orders = [()]
    for _ in row:
        orders = [order + (y,) for order in orders for y, many in enumerate(heap) if order.count(y) < many]
    lefts = left_turns(rule)
    return tuple([row_with_order(lefts, order) for order in orders])


def heaps_of_length(n, length):
    """The ascending tuple of all heaps of n integers, none below 0, with a sum."""
    heaps = [()]
    for _ in range(n - 1):
        heaps = [heap + (many,) for heap in heaps for many in range(length - sum(heap) + 1)]
    return tuple([heap + (length - sum(heap),) for heap in heaps])
