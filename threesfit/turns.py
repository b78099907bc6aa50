"""Turns, the heaps that turn nothing, and sums of turns."""

from threesfit.basics import added, identity, is_below, is_heap, is_permutation, less_times
from threesfit.errors import BadTurn
from threesfit.motions import turn_of, turn_with_heap
from threesfit.orders import first_with_heap, one_more
from threesfit.rules import left_turns, require_rule


def _raised(lefts, least, y):
    """The dict of turns with heaps that comes from another one if each heap gets 1 more at y."""
    return {one_more(lefts, turn, y): heap[:y] + (heap[y] + 1,) + heap[y + 1:] for turn, heap in least.items()}


def basis_and_least(lefts):
    """The still basis, and the dict of all turns with their least heaps, by the left turns of the kinds."""
    n = len(lefts)
    basis = []
    least = {identity(n): (0,) * n}
    for y in reversed(range(n)):
        layers = [least]
        above = _raised(lefts, least, y)
        # The first layer with a still heap has it where the pivot of y is, and the turns that the heaps behind y have.
        while identity(n) not in above:
            layers.append(above)
            above = _raised(lefts, above, y)
        basis.append(above[identity(n)])
        least = {turn: heap for layer in layers for turn, heap in layer.items()}
    return tuple(basis[::-1]), least


def _basis(rule):
    """The still basis of what is known to be a rule."""
    basis, _ = basis_and_least(left_turns(rule))
    return basis


def turns_of(rule):
    """The ascending tuple of all turns of a rule."""
    require_rule(rule)
    _, least = basis_and_least(left_turns(rule))
    return tuple(sorted(least))


def is_turn(rule, thing):
    """Whether any value is a turn of a rule."""
    require_rule(rule)
    if not is_permutation(thing, len(rule)):
        return False
    _, least = basis_and_least(left_turns(rule))
    return thing in least


def still_basis(rule):
    """The tuple of the heaps of the still basis."""
    require_rule(rule)
    return _basis(rule)


def is_still(rule, heap):
    """Whether the turn of a heap is the identity."""
    return turn_of(rule, heap) == identity(len(rule))


def _multipliers_and_rest(basis, heap):
    """How many times each heap of the still basis lies in a heap, and the rest, which is below the pivots."""
    left = heap
    multipliers = []
    for at, still in enumerate(basis):
        multipliers.append(left[at] // still[at])
        left = less_times(left, multipliers[-1], still)
    return tuple(multipliers), left


def judge_still(rule, heap):
    """A certificate: the multipliers of a still heap, or a kind that the turn of the heap turns to another one."""
    for kind, to in enumerate(turn_of(rule, heap)):
        if to != kind:
            return ("turns", kind, to)
    multipliers, _ = _multipliers_and_rest(_basis(rule), heap)
    return ("still", multipliers)


def _is_sum(basis, multipliers, heap):
    """Whether a heap is the sum of so many times the heaps of the still basis."""
    left = heap
    for many, still in zip(multipliers, basis):
        left = less_times(left, many, still)
    return not any(left)


def still_holds(rule, heap, thing):
    """Whether any value is a certificate for a heap."""
    turn = turn_of(rule, heap)
    n = len(rule)
    if not isinstance(thing, tuple) or not 2 <= len(thing) <= 3:
        return False
    if len(thing) == 2:
        return thing[0] == "still" and is_heap(thing[1], n) and _is_sum(_basis(rule), thing[1], heap)
    if thing[0] != "turns" or not is_below(thing[1], n) or not is_below(thing[2], n):
        return False
    return turn[thing[1]] == thing[2] != thing[1]


def reduced(rule, heap):
    """The least heap of the turn of a heap."""
    # Asking for the turn raises what a heap of another kind is due.
    turn_of(rule, heap)
    _, left = _multipliers_and_rest(_basis(rule), heap)
    return left


def _least_heaps(rule, turns):
    """The least heaps of turns, which are checked first."""
    require_rule(rule)
    _, least = basis_and_least(left_turns(rule))
    for turn in turns:
        if not is_permutation(turn, len(rule)) or turn not in least:
            raise BadTurn(turn)
    return [least[turn] for turn in turns]


def least_heap(rule, turn):
    """The first one of the heaps with a turn and no number below 0."""
    return _least_heaps(rule, [turn])[0]


def row_of_turn(rule, turn):
    """The first row with the least heap of a turn."""
    heap = least_heap(rule, turn)
    return first_with_heap(left_turns(rule), heap)


def turn_sum(rule, one, other):
    """The turn of the sum of heaps of two turns."""
    heap, more = _least_heaps(rule, [one, other])
    return turn_with_heap(left_turns(rule), added(heap, more))


def turn_opposite(rule, turn):
    """The turn of a heap of a turn, all signs changed."""
    heap = least_heap(rule, turn)
    return turn_with_heap(left_turns(rule), tuple([-many for many in heap]))


def _line_of_sums(steps, lines, heap):
    """The line of sums with the turn of a least heap, by the lines of the least heaps ahead of it."""
    if not any(heap):
        return list(range(len(steps[0])))
    y = min([kind for kind, many in enumerate(heap) if many])
    # A least heap with 1 less at a place is a least heap, too.
    ahead = heap[:y] + (heap[y] - 1,) + heap[y + 1:]
    return [steps[y][at] for at in lines[ahead]]


def sums_of_turns(lefts):
    """The ascending list of all turns, and the table of their sums, by the left turns of the kinds."""
    _, least = basis_and_least(lefts)
    turns = sorted(least)
    positions = {turn: at for at, turn in enumerate(turns)}
    steps = [[positions[one_more(lefts, turn, y)] for turn in turns] for y in range(len(lefts))]
    lines = {}
    for heap in sorted(least.values()):
        lines[heap] = _line_of_sums(steps, lines, heap)
    return turns, tuple([tuple(lines[least[turn]]) for turn in turns])


def sums_table(rule):
    """The table of the positions of all sums of two turns."""
    require_rule(rule)
    _, sums = sums_of_turns(left_turns(rule))
    return sums
