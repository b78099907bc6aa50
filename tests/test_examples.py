"""The examples of the document for its parts 1 to 6."""

import unittest

from tests.samples import BOTH as both, GUARD as guard, SWAP
from threesfit.dividing import (common_divisor, common_multiple, complement, divides, divides_right, judge_divides, rest,
                                rest_right)
from threesfit.errors import BadText, NoRest, NotAlike
from threesfit.likeness import (alike_holds, are_alike, class_of, distance, judge_alike, many_alike, number_of, row_at)
from threesfit.motions import is_motion, motion_inverse, motion_of, motion_product, turn_of
from threesfit.orders import far_heap, far_kind, heap_of, order_of, right_heap, row_of, turn_of_row
from threesfit.rules import (is_rule, judge_rule, left_turn, meeting, met, mirror, read_table, rule_holds,
                             table_text)
from threesfit.stars import judge_stars, rule_of, squares, stars_hold, stars_of
from threesfit.steps import full_form, full_row, full_turn, is_steps_form, right_form, row_of_steps, steps_form, steps_of


class ExampleTests(unittest.TestCase):
    def test_meetings(self):
        self.assertEqual([meeting(guard, 2, 0), meeting(guard, 0, 2), left_turn(guard, 2), left_turn(guard, 0),
                          is_rule(guard)], [(1, 2), (2, 1), (1, 0, 2), (0, 1, 2), True])
        self.assertEqual([met(guard, (2, 0, 0), 0), met(guard, (1, 2, 0), 1)], [(1, 2, 0), (1, 1, 2)])

    def test_rules(self):
        self.assertEqual([judge_rule(both), table_text(both), mirror(both) == both],
                         [("rule",), "11 01\n10 00", True])
        self.assertEqual([rule_holds((((0, 0), (1, 1)), ((0, 0), (1, 1))), ("twice", 0, 1)),
                          rule_holds(both, ("left", 0, 0, 1))], [True, False])

    def test_texts(self):
        with self.assertRaises(BadText) as caught:
            read_table("00 10\n01")
        self.assertEqual(caught.exception.at, 2)

    def test_stars(self):
        self.assertEqual([stars_of(guard), squares(stars_of(guard)),
                          rule_of(((0, 1, 2), (0, 1, 2), (1, 0, 2))) == guard],
                         [((0, 1, 2), (0, 1, 2), (1, 0, 2)), (0, 1, 2), True])
        self.assertEqual([squares(((1, 0), (1, 0))), judge_stars(((1, 0), (1, 0))), rule_of(((1, 0), (1, 0)))],
                         [(1, 0), ("stars",), (((1, 1), (0, 1)), ((1, 0), (0, 0)))])
        self.assertEqual([stars_hold(((0, 1), (1, 0)), ("three", 0, 1, 0)),
                          stars_hold(((0, 0), (0, 1)), ("row", 0, 0, 1))], [True, True])

    def test_orders(self):
        self.assertEqual([order_of(guard, (2, 0, 0)), heap_of(guard, (2, 0, 0)), turn_of_row(guard, (2, 0, 0)),
                          row_of(guard, (1, 1, 2))], [(2, 1, 1), (0, 2, 1), (1, 0, 2), (1, 1, 2)])
        self.assertEqual([heap_of(guard, (0, 0, 2)), right_heap(guard, (0, 0, 2)), right_heap(guard, (2, 1, 1))],
                         [(2, 0, 1), (0, 2, 1), (0, 2, 1)])
        self.assertEqual([order_of(guard, (2, 0, 2, 0)), far_kind(guard, (2, 0), 10 ** 30 + 1),
                          far_heap(guard, (2, 0), 5)], [(2, 1, 2, 0), 1, (2, 3, 5)])

    def test_motions(self):
        self.assertEqual([motion_of(both, (0, 0)), motion_product(((1, 0), (1, 0)), ((0, 1), (1, 0))),
                          motion_inverse(((1, 0), (1, 0)))],
                         [((1, 1), (0, 1)), ((2, 0), (0, 1)), ((0, -1), (1, 0))])
        self.assertEqual([turn_of(both, (0, -3)), is_motion(both, ((1, 0), (0, 1))), is_motion(both, ((5, -2), (1, 0)))],
                         [(1, 0), False, True])

    def test_alike_rows(self):
        self.assertEqual([are_alike(guard, (2, 0, 0), (1, 1, 2)), distance(guard, (2, 0, 0), (1, 1, 2)),
                          judge_alike(guard, (2, 0, 0), (1, 1, 2))], [True, 2, ("meetings", (0, 1))])
        self.assertEqual([judge_alike(guard, (0, 2), (2, 0)),
                          alike_holds(guard, (0, 2), (2, 1), ("meetings", (0, 0, 0))), many_alike(guard, (2, 0, 1))],
                         [("heaps", (1, 0, 1), (0, 1, 1)), True, 6])
        self.assertEqual([class_of(guard, (2, 0, 0)), number_of(guard, (2, 0, 0)), row_at(guard, (0, 2, 1), 1)],
                         [((1, 1, 2), (1, 2, 0), (2, 0, 0)), 2, (1, 2, 0)])
        self.assertRaises(NotAlike, distance, guard, (0, 2), (2, 0))

    def test_dividing(self):
        self.assertEqual([divides(guard, (1,), (2, 0, 0)), rest(guard, (1,), (2, 0, 0)),
                          divides_right(guard, (0,), (2, 0, 0)), rest_right(guard, (0,), (2, 0, 0))],
                         [True, (1, 2), True, (1, 2)])
        self.assertEqual([judge_divides(guard, (0,), (2, 0)), rest(guard, (2,), (1, 2)), divides(guard, (), ()),
                          rest(guard, (2,), (2, 0))], [("kind", 0), (0,), True, (0,)])
        self.assertEqual([common_multiple(guard, (0,), (2,)), common_divisor(guard, (2, 0), (1, 1)),
                          complement(guard, (2,), (0,)), complement(guard, (0,), (2,))], [(0, 2), (1,), (1,), (2,)])
        self.assertRaises(NoRest, rest, guard, (0,), (2, 0))

    def test_steps(self):
        self.assertEqual([full_row(both), full_turn(both), steps_of(both), steps_form(both, (0, 1, 1, 1, 0)),
                          right_form(both, (0, 1, 1, 1, 0))],
                         [(0, 0), (0, 1), ((0,), (0, 0), (1,)), ((1, 1), (1, 0), (0, 1), (1, 0)),
                          ((1, 0), (0, 1), (1, 0), (1, 1))])
        self.assertEqual([full_turn(SWAP), is_steps_form(SWAP, ((1, 0, 1), (1, 1, 0))),
                          is_steps_form(SWAP, ((1, 0, 1), (1, 0, 1))), row_of_steps(SWAP, ((1, 0, 1), (1, 1, 0))),
                          full_form(SWAP, ((1, -1, 2), (0, 2, 1)))],
                         [(0, 2, 1), True, False, (0, 1, 0, 2), (-1, ((1, 1, 0), (1, 0, 1), (0, 1, 0)))])
        self.assertEqual([full_turn(guard), steps_form(guard, (2, 0, 2)), right_form(guard, (2, 0, 2)),
                          right_form(guard, (2, 0, 2, 0))],
                         [(1, 0, 2), ((0, 1, 1), (0, 0, 1)), ((0, 0, 1), (1, 0, 1)), ((0, 0, 1), (1, 1, 1))])
