"""Rows, and the orders and heaps behind them."""

from threesfit.basics import after, identity, is_heap, is_kinds, is_whole, path_of
from threesfit.errors import BadHeap, BadOrder, BadPlace, BadRow
from threesfit.rules import left_turns, mirror, require_rule


def is_row(rule, thing):
    """Whether any value is a row of a rule."""
    require_rule(rule)
    return is_kinds(thing, len(rule))


def require_row(rule, row):
    """Raise BadRule unless the rule is one, and BadRow unless the row is one of the rule."""
    if not is_row(rule, row):
        raise BadRow(row)


def require_rows(rule, one, other):
    """Raise BadRule unless the rule is one, and BadRow unless both rows are rows of it, the first one first."""
    require_rule(rule)
    for row in (one, other):
        if not is_kinds(row, len(rule)):
            raise BadRow(row)


def require_counts(rule, heap):
    """Raise BadRule unless the rule is one, and BadHeap unless the heap is one without numbers below 0."""
    require_rule(rule)
    if not is_heap(heap, len(rule)) or min(heap) < 0:
        raise BadHeap(heap)


def one_more(lefts, turn, y):
    """The turn of the motion that has 1 more at y than the motion with a turn, by the left turns of the kinds."""
    return after(turn, lefts[turn.index(y)])


def order_and_turn(lefts, row):
    """The order and the turn of what is known to be a row, by the left turns of the kinds."""
    turn = identity(len(lefts))
    order = []
    for x in row:
        order.append(turn[x])
        turn = after(turn, lefts[x])
    return tuple(order), turn


def heap_and_turn(lefts, row):
    """The heap and the turn of what is known to be a row, by the left turns of the kinds."""
    order, turn = order_and_turn(lefts, row)
    return counts(order, len(lefts)), turn


def counts(order, n):
    """How often each of n kinds stands in an order."""
    return tuple([order.count(y) for y in range(n)])


def row_with_order(lefts, order):
    """The row with what is known to be an order, by the left turns of the kinds."""
    turn = identity(len(lefts))
    row = []
    for y in order:
        row.append(turn.index(y))
        turn = one_more(lefts, turn, y)
    return tuple(row)


def first_with_heap(lefts, heap):
    """The first row with what is known to be a heap without numbers below 0, by the left turns of the kinds."""
    turn = identity(len(lefts))
    still = list(heap)
    row = []
    while any(still):
        x = min([kind for kind, y in enumerate(turn) if still[y]])
        row.append(x)
        still[turn[x]] -= 1
        turn = after(turn, lefts[x])
    return tuple(row)


def order_of(rule, row):
    """The order of a row."""
    require_row(rule, row)
    order, _ = order_and_turn(left_turns(rule), row)
    return order


def heap_of(rule, row):
    """The heap of a row."""
    return counts(order_of(rule, row), len(rule))


def turn_of_row(rule, row):
    """The turn of a row."""
    require_row(rule, row)
    _, turn = order_and_turn(left_turns(rule), row)
    return turn


def right_order(rule, row):
    """The order that the row, read backwards, has by the mirror of the rule."""
    require_row(rule, row)
    order, _ = order_and_turn(left_turns(mirror(rule)), row[::-1])
    return order


def right_heap(rule, row):
    """The heap that counts the kinds of the right order."""
    return counts(right_order(rule, row), len(rule))


def row_of(rule, order):
    """The row with an order."""
    require_rule(rule)
    if not is_kinds(order, len(rule)):
        raise BadOrder(order)
    return row_with_order(left_turns(rule), order)


def first_row(rule, heap):
    """The first row of a heap without numbers below 0."""
    require_counts(rule, heap)
    return first_with_heap(left_turns(rule), heap)


def _require_far(rule, block, many):
    """Raise what far_kind and far_heap raise, many being the place or the times."""
    if not is_row(rule, block) or not block:
        raise BadRow(block)
    if not is_whole(many) or many < 0:
        raise BadPlace(many)


def far_kind(rule, block, place):
    """The item at a place of the order of the block that is repeated without end."""
    _require_far(rule, block, place)
    order, turn = order_and_turn(left_turns(rule), block)
    blocks, at = divmod(place, len(block))
    # The path comes back to its beginning, so far places need no more steps than near ones.
    path = path_of(turn, order[at])
    return path[blocks % len(path)]


def far_heap(rule, block, times):
    """The heap of the block that is repeated so many times."""
    _require_far(rule, block, times)
    order, turn = order_and_turn(left_turns(rule), block)
    heap = [0] * len(rule)
    for y in order:
        path = path_of(turn, y)
        around, more = divmod(times, len(path))
        for at, z in enumerate(path):
            heap[z] += around + (1 if at < more else 0)
    return tuple(heap)
