"""Steps: heaps of zeros and ones, and the forms that are put together from them."""

from threesfit.basics import identity, is_kinds, is_whole, is_within, lessened, turned, turned_back
from threesfit.errors import BadMotion, BadNumber, BadSteps
from threesfit.motions import is_motion, pair_product, turn_with_heap
from threesfit.orders import first_with_heap, heap_and_turn, one_more, require_row
from threesfit.rules import left_turns, mirror, require_rule


def _is_step(thing, n):
    """Whether any value is a step for n kinds."""
    return is_kinds(thing, 2) and len(thing) == n and any(thing)


def is_step(rule, thing):
    """Whether any value is a step for the kinds of a rule."""
    require_rule(rule)
    return _is_step(thing, len(rule))


def _full_step(n):
    return (1,) * n


def full_row(rule):
    """The first row of the full step."""
    require_rule(rule)
    return first_with_heap(left_turns(rule), _full_step(len(rule)))


def _step_turn(lefts, step):
    """The turn of a step, by the left turns of the kinds."""
    turn = identity(len(lefts))
    for y, many in enumerate(step):
        if many:
            turn = one_more(lefts, turn, y)
    return turn


def full_turn(rule):
    """The turn of the full step."""
    require_rule(rule)
    return _step_turn(left_turns(rule), _full_step(len(rule)))


def steps_of(rule):
    """The ascending tuple of the first rows of all steps."""
    require_rule(rule)
    lefts = left_turns(rule)
    n = len(rule)
    steps = [tuple([(number >> y) & 1 for y in range(n)]) for number in range(1, 1 << n)]
    return tuple(sorted([first_with_heap(lefts, step) for step in steps]))


def _form_of_heap(lefts, heap):
    """The steps form of a heap without numbers below 0, by the left turns of the kinds."""
    left = heap
    form = []
    while any(left):
        step = tuple([min(many, 1) for many in left])
        form.append(step)
        left = turned_back(_step_turn(lefts, step), lessened(left, step))
    return tuple(form)


def _form_of_row(lefts, row):
    """The steps form of what is known to be a row, by the left turns of the kinds."""
    heap, _ = heap_and_turn(lefts, row)
    return _form_of_heap(lefts, heap)


def steps_form(rule, row):
    """The steps form of a row."""
    require_row(rule, row)
    return _form_of_row(left_turns(rule), row)


def _seen_backwards(lefts, rights, step):
    """The heap, by the rule, of the rows of a step of the mirror, read backwards."""
    heap, _ = heap_and_turn(lefts, first_with_heap(rights, step)[::-1])
    return heap


def right_form(rule, row):
    """The right form of a row."""
    require_row(rule, row)
    lefts = left_turns(rule)
    rights = left_turns(mirror(rule))
    form = _form_of_row(rights, row[::-1])
    return tuple([_seen_backwards(lefts, rights, step) for step in form[::-1]])


def _may_follow(lefts, step, following):
    """Whether a step may stand directly behind another one in a steps form."""
    return is_within(turned(_step_turn(lefts, step), following), step)


def is_steps_form(rule, thing):
    """Whether any value is the steps form of some row."""
    require_rule(rule)
    if not isinstance(thing, tuple) or not all([_is_step(part, len(rule)) for part in thing]):
        return False
    lefts = left_turns(rule)
    return all([_may_follow(lefts, step, following) for step, following in zip(thing, thing[1:])])


def _require_form(rule, form):
    """Raise BadRule unless the rule is one, and BadSteps unless the form is the steps form of a row."""
    if not is_steps_form(rule, form):
        raise BadSteps(form)


def row_of_steps(rule, form):
    """The row of the first rows of the steps of a form, one behind the other."""
    _require_form(rule, form)
    lefts = left_turns(rule)
    return tuple([x for step in form for x in first_with_heap(lefts, step)])


def _full_power(lefts, power):
    """The motion of the full step to a power, by the left turns of the kinds."""
    heap = (power,) * len(lefts)
    return heap, turn_with_heap(lefts, heap)


def full_form(rule, motion):
    """The pair of a power of the full step and of a steps form, of which a motion is the product."""
    if not is_motion(rule, motion):
        raise BadMotion(motion)
    lefts = left_turns(rule)
    power = min(motion[0])
    heap, turn = _full_power(lefts, power)
    return power, _form_of_heap(lefts, turned_back(turn, lessened(motion[0], heap)))


def motion_of_form(rule, power, form):
    """The motion with a full form."""
    require_rule(rule)
    if not is_whole(power):
        raise BadNumber(power)
    _require_form(rule, form)
    if form[:1] == (_full_step(len(rule)),):
        raise BadSteps(form)
    lefts = left_turns(rule)
    motion = _full_power(lefts, power)
    for step in form:
        motion = pair_product(motion, (step, _step_turn(lefts, step)))
    return motion
