"""What several files need: tests that take any value, permutations, and sums of heaps."""

MOST_KINDS = 8


def is_whole(thing):
    """Whether any value is an integer; a bool is none."""
    return isinstance(thing, int) and not isinstance(thing, bool)


def is_below(thing, n):
    """Whether any value is an integer from 0 to n - 1."""
    return is_whole(thing) and 0 <= thing < n


def is_kinds(thing, n):
    """Whether any value is a tuple of kinds of the size n."""
    return isinstance(thing, tuple) and all([is_below(part, n) for part in thing])


def is_heap(thing, n):
    """Whether any value is a tuple of n integers."""
    return isinstance(thing, tuple) and len(thing) == n and all([is_whole(part) for part in thing])


def is_permutation(thing, n):
    """Whether any value is a permutation of n kinds."""
    return is_kinds(thing, n) and len(thing) == n and len(set(thing)) == n


def is_within(one, other):
    """Whether a heap is at no kind greater than another one."""
    return all([many <= limit for many, limit in zip(one, other)])


def is_square(thing):
    """Whether any value is a tuple of n tuples of n parts each, for a size n."""
    if not isinstance(thing, tuple) or not 1 <= len(thing) <= MOST_KINDS:
        return False
    return all([isinstance(part, tuple) and len(part) == len(thing) for part in thing])


def identity(n):
    """The permutation of n kinds that turns each kind to itself."""
    return tuple(range(n))


def after(t, s):
    """The product of two permutations: it turns y to t[s[y]]."""
    return tuple([t[y] for y in s])


def inverse(t):
    """The permutation that turns t[y] to y."""
    return tuple([t.index(y) for y in range(len(t))])


def turned(t, heap):
    """The heap that a permutation makes of a heap: it has at t[y] what the heap has at y."""
    return turned_back(inverse(t), heap)


def turned_back(t, heap):
    """The heap that the inverse of a permutation makes of a heap."""
    return tuple([heap[y] for y in t])


def added(one, other):
    """The sum of two heaps, kind by kind."""
    return tuple([many + more for many, more in zip(one, other)])


def lessened(one, other):
    """A heap less another one, kind by kind."""
    return tuple([many - less for many, less in zip(one, other)])


def path_of(t, y):
    """The kinds y, t[y], t[t[y]], .. up to the last one ahead of y."""
    path = [y]
    while t[path[-1]] != y:
        path.append(t[path[-1]])
    return path


def is_just(thing, wanted):
    """Whether any value equals one of integers, strings and tuples; bools are told apart from integers."""
    if not isinstance(wanted, tuple):
        return not isinstance(thing, bool) and thing == wanted
    if not isinstance(thing, tuple) or len(thing) != len(wanted):
        return False
    return all([is_just(part, other) for part, other in zip(thing, wanted)])


def less_times(one, many, other):
    """A heap less so many times another one, kind by kind."""
    return tuple([number - many * less for number, less in zip(one, other)])


def _with_one_pivot(heaps, at):
    """Heaps of which sums of integer multiples are the same; at a place, only the first one may have no 0."""
    found = heaps
    pivots = sorted([(abs(heap[at]), heap) for heap in found if heap[at]])
    while pivots:
        _, pivot = pivots[0]
        others = [less_times(heap, heap[at] // pivot[at], pivot) for heap in found if heap != pivot]
        found = [pivot] + others
        pivots = sorted([(abs(heap[at]), heap) for heap in others if heap[at]])
    return found


def cleared(heap, ways, many):
    """A heap less integer multiples of ways, which has 0 at the first so many places; None if there is none.

    No way is a sum of integer multiples of the others.
    """
    left = heap
    open_ways = ways
    for at in range(many):
        open_ways = _with_one_pivot(open_ways, at)
        if open_ways and open_ways[0][at]:
            left = less_times(left, left[at] // open_ways[0][at], open_ways[0])
            open_ways = open_ways[1:]
        if left[at]:
            return None
    return left
