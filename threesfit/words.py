"""Words with undoings: deeds on them, their motions and fractions, powers and roots of motions."""

from threesfit.basics import (added, after, cleared, identity, is_below, is_just, is_whole, lessened, path_of, turned,
                              turned_back)
from threesfit.dividing import first_rest
from threesfit.errors import BadDeed, BadNumber, BadWord
from threesfit.likeness import fewest_meetings
from threesfit.motions import pair_inverse, pair_power, pair_product, require_motions, turn_with_heap
from threesfit.orders import first_with_heap, heap_and_turn, order_and_turn
from threesfit.rules import left_turns, require_rule
from threesfit.turns import basis_and_least


def _is_letter(thing, n):
    """Whether any value is a letter for n kinds."""
    return is_whole(thing) and 1 <= abs(thing) <= n


def _is_word(thing, n):
    """Whether any value is a word for n kinds."""
    return isinstance(thing, tuple) and all([_is_letter(part, n) for part in thing])


def is_word(rule, thing):
    """Whether any value is a word for the kinds of a rule."""
    require_rule(rule)
    return _is_word(thing, len(rule))


def _require_words(rule, words):
    """Raise BadRule unless the rule is one, and BadWord unless all words are words for it, the first one first."""
    require_rule(rule)
    for word in words:
        if not _is_word(word, len(rule)):
            raise BadWord(word)


def _letter_motion(lefts, letter):
    """The motion of a letter, by the left turns of the kinds."""
    x = abs(letter) - 1
    motion = tuple([1 if y == x else 0 for y in range(len(lefts))]), lefts[x]
    return motion if letter > 0 else pair_inverse(motion)


def _motion_of_letters(lefts, word):
    """The motion of what is known to be a word, by the left turns of the kinds."""
    motion = (0,) * len(lefts), identity(len(lefts))
    for letter in word:
        motion = pair_product(motion, _letter_motion(lefts, letter))
    return motion


def word_motion(rule, word):
    """The motion of a word."""
    _require_words(rule, [word])
    return _motion_of_letters(left_turns(rule), word)


def _met(rule, one, other):
    """The pair of letters that two letters become where they meet."""
    x, y = abs(one) - 1, abs(other) - 1
    if one > 0 and other > 0:
        u, v = rule[x][y]
        return u + 1, v + 1
    if one < 0 and other < 0:
        u, v = rule[y][x]
        return -(v + 1), -(u + 1)
    if one < 0:
        behind = [u for u, _ in rule[x]].index(y)
        return behind + 1, -(rule[x][behind][1] + 1)
    ahead = [line[x][1] for line in rule].index(y)
    return -(ahead + 1), rule[ahead][x][0] + 1


def letters_met(rule, one, other):
    """The pair of letters that two letters become where they meet."""
    require_rule(rule)
    for letter in (one, other):
        if not _is_letter(letter, len(rule)):
            raise BadWord(letter)
    return _met(rule, one, other)


def _can_be_done(n, letters, deed):
    """Whether any value is a deed that can be done on the letters of a word for n kinds."""
    if not isinstance(deed, tuple) or not 2 <= len(deed) <= 3:
        return False
    if len(deed) == 3:
        return deed[0] == "in" and is_below(deed[1], len(letters) + 1) and _is_letter(deed[2], n)
    if not is_below(deed[1], len(letters) - 1):
        return False
    return deed[0] == "meet" or deed[0] == "out" and letters[deed[1]] == -letters[deed[1] + 1]


def _do(rule, letters, deed):
    """Change the list of the letters of a word by a deed that can be done."""
    at = deed[1]
    if deed[0] == "meet":
        letters[at:at + 2] = _met(rule, letters[at], letters[at + 1])
    elif deed[0] == "out":
        del letters[at:at + 2]
    else:
        letters[at:at] = (deed[2], -deed[2])


def done(rule, word, deed):
    """The word behind a deed."""
    _require_words(rule, [word])
    if not _can_be_done(len(rule), word, deed):
        raise BadDeed(deed)
    letters = list(word)
    _do(rule, letters, deed)
    return tuple(letters)


def _both_motions(rule, one, other):
    """The motions of two words, which are checked first."""
    _require_words(rule, [one, other])
    lefts = left_turns(rule)
    return _motion_of_letters(lefts, one), _motion_of_letters(lefts, other)


def are_same(rule, one, other):
    """Whether two words have the same motion."""
    motion, wanted = _both_motions(rule, one, other)
    return motion == wanted


def _parting_deeds(letters):
    """The deeds that bring all letters below 0 ahead of those above 0."""
    deeds = []
    ahead = 0
    for end, letter in enumerate(letters):
        if letter < 0:
            # A letter above 0 stays above 0 where it meets one below 0, so the signs alone tell the places.
            deeds.extend([("meet", at) for at in reversed(range(ahead, end))])
            ahead += 1
    return deeds


def _meetings(lefts, row, common):
    """The places of meetings that lead a row to the common row, which divides it, and the first one of its rests."""
    heap, _ = heap_and_turn(lefts, row)
    order, _ = order_and_turn(lefts, row)
    wanted, _ = order_and_turn(lefts, common + first_rest(lefts, common, heap))
    return fewest_meetings(order, wanted)


def _fraction_deeds(lefts, letters):
    """The deeds that lead a word, whose letters below 0 stand first, to the word of its fraction."""
    undone = tuple([-letter - 1 for letter in letters if letter < 0][::-1])
    kept = tuple([letter - 1 for letter in letters if letter > 0])
    many = len(undone)
    heap, _ = heap_and_turn(lefts, undone)
    other, _ = heap_and_turn(lefts, kept)
    common = first_with_heap(lefts, tuple([min(times, more) for times, more in zip(heap, other)]))
    deeds = [("meet", many - 2 - at) for at in _meetings(lefts, undone, common)]
    deeds.extend([("meet", many + at) for at in _meetings(lefts, kept, common)])
    deeds.extend([("out", many - 1 - at) for at in range(len(common))])
    return deeds


def _undoing(letters, deed):
    """The deed that undoes a deed that is about to be done on the letters, and puts nothing in."""
    return deed if deed[0] == "meet" else ("in", deed[1], letters[deed[1]])


def _deeds_there_and_back(rule, word):
    """The deeds that lead a word to the word of its fraction, and those that lead back."""
    letters = list(word)
    there = _parting_deeds(word)
    back = []
    for deed in there:
        back.append(deed)
        _do(rule, letters, deed)
    more = _fraction_deeds(left_turns(rule), letters)
    for deed in more:
        there.append(deed)
        back.append(_undoing(letters, deed))
        _do(rule, letters, deed)
    return tuple(there), tuple(back[::-1])


def judge_words(rule, one, other):
    """A certificate: deeds that lead from one word to another one, or their unequal motions."""
    motions = _both_motions(rule, one, other)
    if motions[0] != motions[1]:
        return ("motions",) + motions
    there, _ = _deeds_there_and_back(rule, one)
    _, back = _deeds_there_and_back(rule, other)
    return ("deeds", there + back)


def _deeds_lead(rule, one, other, deeds):
    """Whether any value is a tuple of deeds that lead from one word to another one."""
    if not isinstance(deeds, tuple):
        return False
    letters = list(one)
    for deed in deeds:
        if not _can_be_done(len(rule), letters, deed):
            return False
        _do(rule, letters, deed)
    return tuple(letters) == other


def words_hold(rule, one, other, thing):
    """Whether any value is a certificate for two words."""
    motions = _both_motions(rule, one, other)
    if not isinstance(thing, tuple) or not thing:
        return False
    if thing[0] == "deeds":
        return len(thing) == 2 and _deeds_lead(rule, one, other, thing[1])
    return motions[0] != motions[1] and is_just(thing, ("motions",) + motions)


def fraction(rule, word):
    """The pair of the first rows of the fraction of a word."""
    heap, _ = word_motion(rule, word)
    lefts = left_turns(rule)
    # The undoings of the first row take away what the heap has below 0, and their turn comes ahead of the second row.
    turn = turn_with_heap(lefts, tuple([min(many, 0) for many in heap]))
    undone = turned_back(turn, tuple([max(-many, 0) for many in heap]))
    kept = turned_back(turn, tuple([max(many, 0) for many in heap]))
    return first_with_heap(lefts, undone), first_with_heap(lefts, kept)


def _rounds(turn):
    """The rounds of a turn."""
    paths = [tuple(path_of(turn, y)) for y in range(len(turn))]
    return [path for path in paths if path[0] == min(path)]


def _drifting_rounds(motion):
    """The rounds of the turn of a motion at whose kinds the sum of its heap is not 0."""
    heap, turn = motion
    return [path for path in _rounds(turn) if sum([heap[y] for y in path]) != 0]


def judge_drift(rule, motion):
    """A certificate: that the motion is empty, or a round along which it drifts."""
    require_motions(rule, [motion])
    if not any(motion[0]):
        return ("empty",)
    return ("drifts", _drifting_rounds(motion)[0])


def drift_holds(rule, motion, thing):
    """Whether any value is a certificate for a motion."""
    require_motions(rule, [motion])
    if thing == ("empty",):
        return not any(motion[0])
    return any([is_just(thing, ("drifts", path)) for path in _drifting_rounds(motion)])


def is_central(rule, motion):
    """Whether a motion has the same product with each motion in both orders."""
    require_motions(rule, [motion])
    heap, turn = motion
    # The left turns lead each kind through its whole lot.
    return turn == identity(len(rule)) and all([turned(left, heap) == heap for left in left_turns(rule)])


def root_of(rule, motion, k):
    """A motion of the rule whose power k the motion is, None if there is none."""
    require_motions(rule, [motion])
    if not is_whole(k) or k < 1:
        raise BadNumber(k)
    basis, least = basis_and_least(left_turns(rule))
    for turn, heap in least.items():
        power = pair_power((heap, turn), k)
        if power[1] == motion[1]:
            # What a power lacks hangs on the heap, of those with the turn, by sums alone, as it does for still heaps.
            gap = lessened(power[0], motion[0]) + heap
            ways = [pair_power((still, turn), k)[0] + still for still in basis]
            found = cleared(gap, ways, len(rule))
            if found is not None:
                return found[len(rule):], turn
    return None


def leads_over(rule, one, other):
    """A motion of the rule that leads a motion over to another one, None if none does."""
    require_motions(rule, [one, other])
    basis, least = basis_and_least(left_turns(rule))
    for turn, heap in least.items():
        if after(turn, one[1]) == after(other[1], turn):
            gap = lessened(added(heap, turned(turn, one[0])), added(other[0], turned(other[1], heap))) + heap
            ways = [lessened(still, turned(other[1], still)) + still for still in basis]
            found = cleared(gap, ways, len(rule))
            if found is not None:
                return found[len(rule):], turn
    return None


def motion_power(motion, k):
    """A motion to the power k."""
    return pair_power(motion, k)


def moved(motion, point):
    """The point to which a motion moves a point."""
    return added(motion[0], turned(motion[1], point))
