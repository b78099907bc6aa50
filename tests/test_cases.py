"""Certificates for two rules: permutations, trees of cases, and unlike sizes."""

from itertools import permutations, product

from tests.samples import (BOTH, CALM, CYCLE, EIGHT_TURNS, GUARD, ONE, SIX_RULES, SMALL_RULES, STRANGE, STUCK, SWAP, Case, beside,
                           led, plain_renamed, shifted, spoiled)
from threesfit.naming import all_rules, judge_named, least_name, named_holds, renamed

PAIRS = [(CALM, BOTH), (BOTH, CALM), (GUARD, CYCLE), (CYCLE, GUARD), (GUARD, led((1, 0, 2))), (shifted(3), SWAP)]


def clash_ways(one, other, beginning, x, y):
    """In which of four ways a beginning clashes at a pair of positions in it."""
    ways = set()
    for part in range(2):
        u, wanted = one[x][y][part], other[beginning[x]][beginning[y]][part]
        if u in range(len(beginning)) and beginning[u] != wanted:
            ways.add((part, "item"))
        if u not in range(len(beginning)) and wanted in beginning:
            ways.add((part, "position"))
    return ways


def longer(beginning, n):
    return [beginning + (kind,) for kind in range(n) if kind not in beginning]


def plain_is_tree(one, other, beginning, thing):
    """Whether any value is a tree of cases, by the words of the document."""
    following = longer(beginning, len(one))
    if type(thing) is not tuple or len(thing) != len(following):
        return False
    for b, case in zip(following, thing):
        if type(case) is tuple and case[:1] == ("clash",):
            if len(case) != 3 or any(type(x) is not int or not 0 <= x < len(b) for x in case[1:]):
                return False
            if not clash_ways(one, other, b, *case[1:]):
                return False
        elif len(b) == len(one) or not plain_is_tree(one, other, b, case):
            return False
    return True


def plain_named_holds(one, other, thing):
    """Whether any value is a certificate, by the words of the document."""
    if type(thing) is not tuple or not thing:
        return False
    if len(one) != len(other):
        return thing == ("sizes",)
    if thing[0] == "names" and len(thing) == 2 and type(thing[1]) is tuple and {type(x) for x in thing[1]} == {int}:
        return sorted(thing[1]) == list(range(len(one))) and plain_renamed(one, thing[1]) == other
    return thing[0] == "cases" and len(thing) == 2 and plain_is_tree(one, other, (), thing[1])


def some_trees(one, other, beginning):
    """Some trees of cases: each clash there is, and longer trees where there is none, or where there is one."""
    choices = []
    for b in longer(beginning, len(one)):
        clashes = [("clash", x, y) for x, y in product(range(len(b)), repeat=2) if clash_ways(one, other, b, x, y)]
        choices.append(clashes + (some_trees(one, other, b)[:2] if len(b) < len(one) else []))
    many = max(map(len, choices))
    return [tuple(choice[k % len(choice)] for choice in choices) for k in range(many)] if all(choices) else []


def leaves(tree, beginning, n):
    """The clashes of a tree, each with its beginning and with a function that puts another value in its place."""
    for k, (b, case) in enumerate(zip(longer(beginning, n), tree)):
        if case[0] == "clash":
            yield b, case, lambda new, k=k: tree[:k] + (new,) + tree[k + 1:]
        else:
            for deeper, leaf, put in leaves(case, b, n):
                yield deeper, leaf, lambda new, k=k, put=put: tree[:k] + (put(new),) + tree[k + 1:]


class JudgedTests(Case):
    def check(self, one, other):
        found = judge_named(one, other)
        alike = [p for p in permutations(range(len(one))) if len(one) == len(other) and plain_renamed(one, p) == other]
        self.is_just(named_holds(one, other, found), True)
        self.is_just(plain_named_holds(one, other, found), True)
        self.is_just(found[0], "names" if alike else "sizes" if len(one) != len(other) else "cases")
        self.is_just(named_holds(one, other, ("sizes",)), len(one) != len(other))
        if len(one) == len(other):
            for p in permutations(range(len(one))):
                self.is_just(named_holds(one, other, ("names", p)), p in alike)

    def test_small_rules(self):
        for one, other in product(SMALL_RULES + list(all_rules(3)), repeat=2):
            self.check(one, other)

    def test_all_rules_of_four_kinds(self):
        rules = all_rules(4)
        for k, one in enumerate(rules):
            self.check(one, renamed(one, (2, 0, 3, 1)))
            self.check(one, renamed(rules[(k + 1) % 23], (3, 1, 0, 2)))
            self.check(renamed(one, (1, 0, 3, 2)), rules[k * 5 % 23])

    def test_six_kinds(self):
        for one, other in product(SIX_RULES + [beside(GUARD, GUARD)], repeat=2):
            self.is_just(named_holds(one, other, judge_named(one, other)), True)
            self.is_just(judge_named(one, other)[0] == "names", least_name(one) == least_name(other))
            p = (4, 2, 0, 5, 1, 3)
            self.is_just(judge_named(one, renamed(one, p))[0], "names")
            self.is_just(named_holds(one, renamed(one, p), ("names", p)), True)
        self.is_just(judge_named(SIX_RULES[0], SIX_RULES[1])[0], "cases")

    def test_by_name(self):
        self.is_just(judge_named(other=BOTH, one=CALM), ("cases", (("clash", 0, 0), ("clash", 0, 0))))
        self.is_just(judge_named(CALM, GUARD), ("sizes",))
        self.is_just(named_holds(thing=("sizes",), other=GUARD, one=CALM), True)
        self.is_just(judge_named(ONE, ONE), ("names", (0,)))


class TreeTests(Case):
    def test_right_trees(self):
        for one, other in PAIRS + [(shifted(4), EIGHT_TURNS), (STUCK, led((1, 2, 0, 3)))]:
            trees = some_trees(one, other, ())
            self.assertGreater(len(trees), 0)
            for tree in trees:
                self.is_just(plain_is_tree(one, other, (), tree), True)
                self.is_just(named_holds(one, other, ("cases", tree)), True)

    def test_each_way_to_clash(self):
        found = set()
        rules = [renamed(rule, p) for rule in all_rules(3) for p in permutations(range(3))]
        for one, other in product(rules[::3], rules[1::4]):
            if judge_named(one, other)[0] != "cases":
                continue
            for tree in some_trees(one, other, ())[:3]:
                for b, leaf, put in leaves(tree, (), 3):
                    for less in ((), ((),), (leaf,)):
                        thing = ("cases", put(less))
                        self.is_just(named_holds(one, other, thing), plain_named_holds(one, other, thing))
                    for x, y in product(range(-1, 4), repeat=2):
                        inside = x in range(len(b)) and y in range(len(b))
                        ways = clash_ways(one, other, b, x, y) if inside else set()
                        thing = ("cases", put(("clash", x, y)))
                        self.is_just(named_holds(one, other, thing), bool(ways))
                        if len(ways) == 1:
                            found |= ways
        self.assertEqual(found, {(0, "item"), (0, "position"), (1, "item"), (1, "position")})

    def test_something_otherwise_at_any_depth(self):
        for one, other in PAIRS:
            for tree in some_trees(one, other, ())[:4]:
                for thing in spoiled(("cases", tree)):
                    self.says(plain_named_holds(one, other, thing), named_holds, one, other, thing)

    def test_trees_that_are_too_short_or_too_long(self):
        tree = some_trees(GUARD, CYCLE, ())[0]
        full = [put(()) for b, leaf, put in leaves(tree, (), 3)] + [put(((),)) for b, leaf, put in leaves(tree, (), 3)]
        for thing in full + [tree[1:], tree + tree[:1], (), list(tree), ("clash", 0, 0), (tree,), tree[::-1]]:
            self.says(plain_named_holds(GUARD, CYCLE, ("cases", thing)), named_holds, GUARD, CYCLE, ("cases", thing))
        # A tree of another pair of rules, of as many kinds.
        for one, other in product(all_rules(3), repeat=2):
            self.is_just(named_holds(one, other, ("cases", tree)), plain_is_tree(one, other, (), tree))

    def test_any_value(self):
        pairs = [(ONE, ONE), (CALM, BOTH), (CALM, GUARD), (BOTH, BOTH), (SWAP, GUARD), (CYCLE, GUARD)]
        for one, other in pairs:
            right = judge_named(one, other)
            things = list(spoiled(right)) + STRANGE + [("sizes",), ("sizes", ()), "sizes", ["sizes"], ("names",), ("cases",), ("names", None), ("cases", None),
                                                      ("cases", ()), ("cases", []), ("names", ()), ("names", [0]), ("names", (True,)), ("names", (False,)),
                                                      ("names", (1, 0), ()), ("cases", (("clash", False, 0), ("clash", 0, 0))), ("cases", "clash"),
                                                      ("cases", (("clash", 0, 0), ["clash", 0, 0])), ("cases", (("clash", 0), ("clash", 0, 0))),
                                                      ("cases", (("clash", 0, 0, 0), ("clash", 0, 0))), {"sizes": ()}, ()]
            for thing in things:
                self.says(plain_named_holds(one, other, thing), named_holds, one, other, thing)
