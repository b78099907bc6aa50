"""The examples of the document for rules, stars and orders."""

import unittest

from tests.samples import BOTH as both, GUARD as guard
from threesfit.errors import BadText
from threesfit.orders import far_heap, far_kind, heap_of, order_of, right_heap, row_of, turn_of_row
from threesfit.rules import (is_rule, judge_rule, left_turn, meeting, met, mirror, read_table, rule_holds,
                             table_text)
from threesfit.stars import judge_stars, rule_of, squares, stars_hold, stars_of


class ExampleTests(unittest.TestCase):
    def test_meetings(self):
        self.assertEqual([meeting(guard, 2, 0), meeting(guard, 0, 2), left_turn(guard, 2), left_turn(guard, 0),
                          is_rule(guard)], [(1, 2), (2, 1), (1, 0, 2), (0, 1, 2), True])
        self.assertEqual([met(guard, (2, 0, 0), 0), met(guard, (1, 2, 0), 1)], [(1, 2, 0), (1, 1, 2)])

    def test_rules(self):
        self.assertEqual([judge_rule(both), table_text(both), mirror(both) == both],
                         [("rule",), "11 01\n10 00", True])
        self.assertEqual([rule_holds((((0, 0), (1, 1)), ((0, 0), (1, 1))), ("twice", 0, 1)),
                          rule_holds(both, ("left", 0, 0, 1))], [True, False])

    def test_texts(self):
        with self.assertRaises(BadText) as caught:
            read_table("00 10\n01")
        self.assertEqual(caught.exception.at, 2)

    def test_stars(self):
        self.assertEqual([stars_of(guard), squares(stars_of(guard)),
                          rule_of(((0, 1, 2), (0, 1, 2), (1, 0, 2))) == guard],
                         [((0, 1, 2), (0, 1, 2), (1, 0, 2)), (0, 1, 2), True])
        self.assertEqual([squares(((1, 0), (1, 0))), judge_stars(((1, 0), (1, 0))), rule_of(((1, 0), (1, 0)))],
                         [(1, 0), ("stars",), (((1, 1), (0, 1)), ((1, 0), (0, 0)))])
        self.assertEqual([stars_hold(((0, 1), (1, 0)), ("three", 0, 1, 0)),
                          stars_hold(((0, 0), (0, 1)), ("row", 0, 0, 1))], [True, True])

    def test_orders(self):
        self.assertEqual([order_of(guard, (2, 0, 0)), heap_of(guard, (2, 0, 0)), turn_of_row(guard, (2, 0, 0)),
                          row_of(guard, (1, 1, 2))], [(2, 1, 1), (0, 2, 1), (1, 0, 2), (1, 1, 2)])
        self.assertEqual([heap_of(guard, (0, 0, 2)), right_heap(guard, (0, 0, 2)), right_heap(guard, (2, 1, 1))],
                         [(2, 0, 1), (0, 2, 1), (0, 2, 1)])
        self.assertEqual([order_of(guard, (2, 0, 2, 0)), far_kind(guard, (2, 0), 10 ** 30 + 1),
                          far_heap(guard, (2, 0), 5)], [(2, 1, 2, 0), 1, (2, 3, 5)])
