"""Rows, and the orders and heaps behind them."""

from threesfit.basics import after, identity, is_heap, is_kinds, is_whole, path_of
from threesfit.errors import BadHeap, BadOrder, BadPlace, BadRow
from threesfit.rules import left_turns, mirror, require_rule


def is_row(rule, thing):
    """Whether any value is a row of a rule."""
    require_rule(rule)
    return is_kinds(thing, len(rule))


def require_row(rule, row):
    """Raise BadRule unless the rule is one, and BadRow unless the row is one of the rule."""
    if not is_row(rule, row):
        raise BadRow(row)


def order_and_turn(table, row):
    """The order and the turn of a row of a table, both being known to be right."""
    lefts = left_turns(table)
    turn = identity(len(table))
    order = []
    for x in row:
        order.append(turn[x])
        turn = after(turn, lefts[x])
    return tuple(order), turn


def _counts(order, n):
    """How often each of n kinds stands in an order."""
    return tuple([order.count(y) for y in range(n)])


def order_of(rule, row):
    """The order of a row."""
    require_row(rule, row)
    order, _ = order_and_turn(rule, row)
    return order


def heap_of(rule, row):
    """The heap of a row."""
    return _counts(order_of(rule, row), len(rule))


def turn_of_row(rule, row):
    """The turn of a row."""
    require_row(rule, row)
    _, turn = order_and_turn(rule, row)
    return turn


def right_order(rule, row):
    """The order that the row, read backwards, has by the mirror of the rule."""
    require_row(rule, row)
    order, _ = order_and_turn(mirror(rule), row[::-1])
    return order


def right_heap(rule, row):
    """The heap that counts the kinds of the right order."""
    return _counts(right_order(rule, row), len(rule))


def row_of(rule, order):
    """The row with an order."""
    require_rule(rule)
    if not is_kinds(order, len(rule)):
        raise BadOrder(order)
    lefts = left_turns(rule)
    turn = identity(len(rule))
    row = []
    for y in order:
        x = turn.index(y)
        row.append(x)
        turn = after(turn, lefts[x])
    return tuple(row)


def first_row(rule, heap):
    """The first row of a heap without numbers below 0."""
    require_rule(rule)
    if not is_heap(heap, len(rule)) or min(heap) < 0:
        raise BadHeap(heap)
    lefts = left_turns(rule)
    turn = identity(len(rule))
    still = list(heap)
    row = []
    while any(still):
        x = min([kind for kind, y in enumerate(turn) if still[y]])
        row.append(x)
        still[turn[x]] -= 1
        turn = after(turn, lefts[x])
    return tuple(row)


def _require_far(rule, block, many):
    """Raise what far_kind and far_heap raise, many being the place or the times."""
    if not is_row(rule, block) or not block:
        raise BadRow(block)
    if not is_whole(many) or many < 0:
        raise BadPlace(many)


def far_kind(rule, block, place):
    """The item at a place of the order of the block that is repeated without end."""
    _require_far(rule, block, place)
    order, turn = order_and_turn(rule, block)
    blocks, at = divmod(place, len(block))
    # The path comes back to its beginning, so far places need no more steps than near ones.
    path = path_of(turn, order[at])
    return path[blocks % len(path)]


def far_heap(rule, block, times):
    """The heap of the block that is repeated so many times."""
    _require_far(rule, block, times)
    order, turn = order_and_turn(rule, block)
    heap = [0] * len(rule)
    for y in order:
        path = path_of(turn, y)
        around, more = divmod(times, len(path))
        for at, z in enumerate(path):
            heap[z] += around + (1 if at < more else 0)
    return tuple(heap)
