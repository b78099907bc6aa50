"""Rows that divide others, their rests, common multiples and divisors."""

from threesfit.basics import is_below, is_kinds, is_within, lessened, turned_back
from threesfit.errors import NoRest
from threesfit.orders import first_with_heap, heap_and_turn, require_rows
from threesfit.rules import left_turns, mirror


def _heap(lefts, row):
    """The heap of what is known to be a row, by the left turns of the kinds."""
    heap, _ = heap_and_turn(lefts, row)
    return heap


def _both_heaps(rule, one, other):
    """The heaps of two rows, which are checked first."""
    require_rows(rule, one, other)
    lefts = left_turns(rule)
    return _heap(lefts, one), _heap(lefts, other)


def _both_right_heaps(rule, one, other):
    """The right heaps of two rows, which are checked first."""
    require_rows(rule, one, other)
    rights = left_turns(mirror(rule))
    return _heap(rights, one[::-1]), _heap(rights, other[::-1])


def first_rest(lefts, row, heap):
    """The first row among the rests of a row in the rows with a heap, which it divides from the left."""
    own, turn = heap_and_turn(lefts, row)
    return first_with_heap(lefts, turned_back(turn, lessened(heap, own)))


def divides(rule, one, other):
    """Whether a row divides another one from the left."""
    own, heap = _both_heaps(rule, one, other)
    return is_within(own, heap)


def divides_right(rule, one, other):
    """Whether a row divides another one from the right."""
    own, heap = _both_right_heaps(rule, one, other)
    return is_within(own, heap)


def judge_divides(rule, one, other):
    """A certificate: a rest from the left, or a kind of which the first row has more."""
    own, heap = _both_heaps(rule, one, other)
    for x, many in enumerate(own):
        if many > heap[x]:
            return ("kind", x)
    return ("rest", first_rest(left_turns(rule), one, heap))


def divides_holds(rule, one, other, thing):
    """Whether any value is a certificate for two rows."""
    own, heap = _both_heaps(rule, one, other)
    if not isinstance(thing, tuple) or len(thing) != 2:
        return False
    if thing[0] == "rest":
        return is_kinds(thing[1], len(rule)) and _heap(left_turns(rule), one + thing[1]) == heap
    return thing[0] == "kind" and is_below(thing[1], len(rule)) and own[thing[1]] > heap[thing[1]]


def rest(rule, one, other):
    """The first row among the rests of a row in another one, from the left."""
    own, heap = _both_heaps(rule, one, other)
    if not is_within(own, heap):
        raise NoRest()
    return first_rest(left_turns(rule), one, heap)


def rest_right(rule, one, other):
    """The first row among the rests of a row in another one, from the right."""
    own, heap = _both_right_heaps(rule, one, other)
    if not is_within(own, heap):
        raise NoRest()
    backwards = first_rest(left_turns(mirror(rule)), one[::-1], heap)
    lefts = left_turns(rule)
    # The first row by the mirror, read backwards, is a rest, but need not be the first one.
    return first_with_heap(lefts, _heap(lefts, backwards[::-1]))


def _greater(one, other):
    """The heap that has at each kind the greater number of two heaps."""
    return tuple([max(many, more) for many, more in zip(one, other)])


def common_multiple(rule, one, other):
    """The first row among the least common multiples of two rows."""
    own, heap = _both_heaps(rule, one, other)
    return first_with_heap(left_turns(rule), _greater(own, heap))


def common_divisor(rule, one, other):
    """The first row among the greatest common divisors of two rows."""
    own, heap = _both_heaps(rule, one, other)
    lesser = tuple([min(many, more) for many, more in zip(own, heap)])
    return first_with_heap(left_turns(rule), lesser)


def complement(rule, one, other):
    """The first row that is a complement of a row to another one."""
    own, heap = _both_heaps(rule, one, other)
    return first_rest(left_turns(rule), one, _greater(own, heap))
