"""Star tables."""

from itertools import permutations, product

from tests.samples import (BOTH, GUARD, NO_RULES, ONE, RULES, STRANGE, STUCK, WRONG_RULES, Case, met_at, shifted, spoiled)
from threesfit.errors import BadRule, BadStars
from threesfit.rules import is_rule, left_turn
from threesfit.stars import is_grid, is_stars, judge_stars, rule_of, squares, stars_hold, stars_of

NAMES = ("stars", "row", "three")
WRONG_GRIDS = STRANGE + [(), 0, (0,), ((1,),), ((-1,),), ((True,),), ((False,),), (("0",),), ((None,),), (((0,),),), ([0],),
                         [(0,)], [[0]], ((0, 0),), ((0,), (0,)), ((0, 1), (0, 2)), ((0, 1), (0, True)), ((0, 1), [0, 1]),
                         ((0, 1), (0,)), ((0, 1), (0, 1, 0)), ((0, 1), "01"), (tuple(range(9)),) * 9, ((), ()), GUARD]
NO_STARS = [((0, 0), (0, 1)), ((0, 1), (1, 0)), ((0, 0), (0, 0)), ((0, 1), (1, 1)), ((0, 1, 2), (0, 2, 1), (1, 0, 2)),
            (tuple(range(8)),) * 7 + ((0,) * 8,), (tuple(range(8)),) * 7 + (tuple(range(7, -1, -1)),)]


def grids_of(n):
    lines = list(product(range(n), repeat=n))
    return list(product(lines, repeat=n))


def faults_of(grid):
    n = len(grid)
    found = set()
    for x, y, z in product(range(n), repeat=3):
        if y < z and grid[x][y] == grid[x][z]:
            found.add(("row", x, y, z))
        a, b, c, d = grid[x][y], grid[x][z], grid[y][x], grid[y][z]
        if grid[a][b] != grid[c][d]:
            found.add(("three", x, y, z))
    return found


class GridTests(Case):
    def test_grids(self):
        for n in range(1, 9):
            self.is_just(is_grid((tuple(range(n)),) * n), True)
            self.is_just(is_grid(((n - 1,) * n,) * n), True)
            self.is_just(is_grid(((n,) * n,) * n), False)
            self.is_just(is_stars((tuple(range(n)),) * n), True)

    def test_no_grids(self):
        for thing in WRONG_GRIDS:
            self.is_just((is_grid(thing), is_stars(thing)), (False, False))
        for grid in [((0,),), ((1, 0), (1, 0)), stars_of(STUCK), stars_of(shifted(8))]:
            for thing in spoiled(grid):
                self.is_just((is_grid(thing), is_stars(thing)), (False, False))

    def test_no_stars(self):
        for grid in NO_STARS:
            self.is_just((is_grid(grid), is_stars(grid)), (True, False))


class JudgeTests(Case):
    def check(self, grid):
        faults = faults_of(grid)
        found = judge_stars(grid)
        self.is_just(is_stars(grid), not faults)
        if faults:
            self.assertIn(found, faults)
        else:
            self.is_just(found, ("stars",))
        self.is_just(stars_hold(grid, found), True)

    def test_grids(self):
        for grid in grids_of(1) + grids_of(2) + list(product(permutations(range(3)), repeat=3)) + NO_STARS:
            self.check(grid)
        for grid in grids_of(3)[::37]:
            self.check(grid)
        for rule in RULES:
            self.check(stars_of(rule))

    def test_faults_of_one_kind(self):
        self.assertEqual({fault[0] for fault in faults_of(((0, 1), (1, 0)))}, {"three"})
        self.assertEqual({fault[0] for fault in faults_of(((0, 0), (0, 0)))}, {"row"})

    def test_all_certificates(self):
        for grid in grids_of(2) + [stars_of(GUARD), NO_STARS[4], ((0, 0, 1), (2, 2, 2), (1, 0, 0))]:
            right = faults_of(grid) or {("stars",)}
            for many in range(5):
                for kinds in product(range(len(grid)), repeat=many):
                    for name in NAMES:
                        thing = (name,) + kinds
                        self.is_just(stars_hold(grid, thing), thing in right)

    def test_strange_values(self):
        for grid in [((0,),), ((1, 0), (1, 0)), ((0, 0), (0, 1))]:
            for thing in STRANGE + [()] + [(name, thing) for thing in STRANGE for name in NAMES]:
                self.is_just(stars_hold(grid, thing), False)
            for thing in spoiled(("stars",)):
                self.is_just(stars_hold(grid, thing), False)
        for grid in NO_STARS:
            for fault in list(faults_of(grid))[:20]:
                self.is_just(stars_hold(grid, fault), True)
                for thing in spoiled(fault):
                    self.is_just(stars_hold(grid, thing), False)

    def test_kinds_of_another_size(self):
        for name in NAMES:
            for kinds in [(0, 0, 2), (2, 0, 1), (0, -1, 1), (-1, 0, 1), (0, 1, 2)]:
                self.is_just(stars_hold(((0, 0), (0, 0)), (name,) + kinds), False)

    def test_calls(self):
        self.is_just(judge_stars(grid=((0,),)), ("stars",))
        self.is_just(stars_hold(thing=("row", 0, 0, 1), grid=((0, 0), (0, 1))), True)
        for grid in WRONG_GRIDS:
            self.refuses(BadStars, grid, judge_stars, grid)
            self.refuses(BadStars, grid, stars_hold, grid, ("stars",))
            self.refuses(BadStars, grid, stars_hold, grid, None)


class WayTests(Case):
    def test_there_and_back(self):
        for rule in RULES:
            n = len(rule)
            stars = stars_of(rule)
            for x, z in product(range(n), repeat=2):
                self.is_just(stars[x][left_turn(rule, x)[z]], z)
            self.is_just(is_stars(stars), True)
            self.is_just(rule_of(stars), rule)

    def test_back_and_there(self):
        many = 0
        for grid in grids_of(1) + grids_of(2) + list(product(permutations(range(3)), repeat=3)):
            if is_stars(grid):
                many += 1
                self.is_just(is_rule(rule_of(grid)), True)
                self.is_just(stars_of(rule_of(grid)), grid)
        self.assertEqual(many, 1 + 2 + 12)

    def test_squares(self):
        self.is_just(squares(stars_of(BOTH)), (1, 0))
        for rule in RULES:
            stars = stars_of(rule)
            self.is_just(squares(stars), tuple(stars[x][x] for x in range(len(rule))))
            self.is_just(sorted(squares(stars)), list(range(len(rule))))

    def test_rows_that_meet_to_one_another(self):
        for rule in RULES:
            stars = stars_of(rule)
            for x, y in permutations(range(len(rule)), 2):
                self.is_just(met_at(rule, (x, stars[x][y]), 0), (y, stars[y][x]))

    def test_calls(self):
        self.is_just(stars_of(rule=ONE), ((0,),))
        self.is_just(rule_of(stars=((0,),)), ONE)
        self.is_just(squares(stars=((0,),)), (0,))
        for rule in WRONG_RULES + NO_RULES:
            self.refuses(BadRule, rule, stars_of, rule)
        for stars in WRONG_GRIDS + NO_STARS:
            self.refuses(BadStars, stars, rule_of, stars)
            self.refuses(BadStars, stars, squares, stars)
