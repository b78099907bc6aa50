"""Motions: heaps with their turns, products and inverses of them."""

from threesfit.basics import (MOST_KINDS, added, after, identity, inverse, is_heap, is_permutation, lessened, turned,
                              turned_back)
from threesfit.errors import BadHeap, BadMotion
from threesfit.orders import heap_and_turn, one_more, require_row
from threesfit.rules import left_turns, require_rule


def is_pair(thing):
    """Whether any value is a pair of any size."""
    if not isinstance(thing, tuple) or len(thing) != 2 or not isinstance(thing[0], tuple):
        return False
    n = len(thing[0])
    return 1 <= n <= MOST_KINDS and is_heap(thing[0], n) and is_permutation(thing[1], n)


def _require_pair(thing):
    if not is_pair(thing):
        raise BadMotion(thing)


def _turn_with_more(lefts, turn, y, many):
    """The turn of the motion that has so many more, or less, at y than the motion with a turn."""
    path = [turn]
    following = one_more(lefts, turn, y)
    while following != turn:
        path.append(following)
        following = one_more(lefts, following, y)
    # The path comes back to its beginning, so great numbers, and those below 0, need no more steps than small ones.
    return path[many % len(path)]


def turn_with_heap(lefts, heap):
    """The turn of what is known to be a heap, by the left turns of the kinds."""
    turn = identity(len(lefts))
    for y, many in enumerate(heap):
        turn = _turn_with_more(lefts, turn, y, many)
    return turn


def is_motion(rule, thing):
    """Whether any value is a motion of a rule."""
    require_rule(rule)
    if not is_pair(thing) or len(thing[0]) != len(rule):
        return False
    return thing[1] == turn_with_heap(left_turns(rule), thing[0])


def require_motions(rule, motions):
    """Raise BadRule unless the rule is one, and BadMotion unless all motions are motions of it, the first one first."""
    require_rule(rule)
    for motion in motions:
        if not is_motion(rule, motion):
            raise BadMotion(motion)


def motion_of(rule, row):
    """The motion of a row."""
    require_row(rule, row)
    return heap_and_turn(left_turns(rule), row)


def turn_of(rule, heap):
    """The turn of a heap."""
    require_rule(rule)
    if not is_heap(heap, len(rule)):
        raise BadHeap(heap)
    return turn_with_heap(left_turns(rule), heap)


def pair_product(one, other):
    """The product of what are known to be pairs of one size."""
    return added(one[0], turned(one[1], other[0])), after(one[1], other[1])


def pair_inverse(pair):
    """The inverse of what is known to be a pair."""
    heap, turn = pair
    zeros = (0,) * len(heap)
    return lessened(zeros, turned_back(turn, heap)), inverse(turn)


def pair_power(pair, k):
    """What is known to be a pair to the power k, which is any integer."""
    found = (0,) * len(pair[0]), identity(len(pair[0]))
    square = pair if k > 0 else pair_inverse(pair)
    left = abs(k)
    while left:
        if left & 1:
            found = pair_product(found, square)
        square = pair_product(square, square)
        left >>= 1
    return found


def motion_product(one, other):
    """The product of two pairs of one size."""
    _require_pair(one)
    _require_pair(other)
    if len(one[0]) != len(other[0]):
        raise BadMotion(other)
    return pair_product(one, other)


def motion_inverse(motion):
    """The pair whose product with a pair, on either side, is the empty motion."""
    _require_pair(motion)
    return pair_inverse(motion)
