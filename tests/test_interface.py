"""Names, parameters and places of the functions of the interface."""

import importlib
import inspect
import unittest

INTERFACE = {
    "rules": {"is_table": ["thing"], "is_rule": ["thing"], "meeting": ["table", "x", "y"], "left_turn": ["table", "x"],
              "right_turn": ["table", "y"], "met": ["table", "row", "place"], "judge_rule": ["table"],
              "rule_holds": ["table", "thing"], "mirror": ["table"], "table_text": ["table"], "read_table": ["text"]},
    "stars": {"is_grid": ["thing"], "is_stars": ["thing"], "judge_stars": ["grid"], "stars_hold": ["grid", "thing"],
              "stars_of": ["rule"], "rule_of": ["stars"], "squares": ["stars"]},
    "orders": {"is_row": ["rule", "thing"], "order_of": ["rule", "row"], "heap_of": ["rule", "row"],
               "turn_of_row": ["rule", "row"], "right_order": ["rule", "row"], "right_heap": ["rule", "row"],
               "row_of": ["rule", "order"], "first_row": ["rule", "heap"], "far_kind": ["rule", "block", "place"],
               "far_heap": ["rule", "block", "times"]},
    "motions": {"is_motion": ["rule", "thing"], "motion_of": ["rule", "row"], "turn_of": ["rule", "heap"],
                "motion_product": ["one", "other"], "motion_inverse": ["motion"]},
    "likeness": {"are_alike": ["rule", "one", "other"], "judge_alike": ["rule", "one", "other"],
                 "alike_holds": ["rule", "one", "other", "thing"], "distance": ["rule", "one", "other"],
                 "many_alike": ["rule", "row"], "number_of": ["rule", "row"], "class_of": ["rule", "row"],
                 "row_at": ["rule", "heap", "number"], "heaps_of_length": ["n", "length"]},
    "dividing": {"divides": ["rule", "one", "other"], "divides_right": ["rule", "one", "other"],
                 "judge_divides": ["rule", "one", "other"], "divides_holds": ["rule", "one", "other", "thing"],
                 "rest": ["rule", "one", "other"], "rest_right": ["rule", "one", "other"],
                 "common_multiple": ["rule", "one", "other"], "common_divisor": ["rule", "one", "other"],
                 "complement": ["rule", "one", "other"]},
    "steps": {"is_step": ["rule", "thing"], "full_row": ["rule"], "full_turn": ["rule"], "steps_of": ["rule"],
              "steps_form": ["rule", "row"], "right_form": ["rule", "row"], "is_steps_form": ["rule", "thing"],
              "row_of_steps": ["rule", "form"], "full_form": ["rule", "motion"],
              "motion_of_form": ["rule", "power", "form"]},
    "words": {"is_word": ["rule", "thing"], "word_motion": ["rule", "word"], "fraction": ["rule", "word"],
              "letters_met": ["rule", "one", "other"], "done": ["rule", "word", "deed"],
              "are_same": ["rule", "one", "other"], "judge_words": ["rule", "one", "other"],
              "words_hold": ["rule", "one", "other", "thing"], "judge_drift": ["rule", "motion"],
              "drift_holds": ["rule", "motion", "thing"], "is_central": ["rule", "motion"],
              "root_of": ["rule", "motion", "k"], "leads_over": ["rule", "one", "other"], "motion_power": ["motion", "k"],
              "moved": ["motion", "point"]},
    "frozen": {"power_row": ["rule", "kind", "k"], "frozen_number": ["rule"], "judge_frozen": ["rule"],
               "frozen_holds": ["rule", "thing"], "is_element": ["rule", "thing"], "element_of": ["rule", "word"],
               "world_elements": ["rule"], "world_product": ["rule", "one", "other"], "world_inverse": ["rule", "element"],
               "world_power": ["rule", "element", "k"], "world_order": ["rule", "element"], "moves": ["rule", "kind"]},
    "turns": {"turns_of": ["rule"], "is_turn": ["rule", "thing"], "still_basis": ["rule"], "is_still": ["rule", "heap"],
              "judge_still": ["rule", "heap"], "still_holds": ["rule", "heap", "thing"], "reduced": ["rule", "heap"],
              "least_heap": ["rule", "turn"], "row_of_turn": ["rule", "turn"], "turn_sum": ["rule", "one", "other"],
              "turn_opposite": ["rule", "turn"], "sums_table": ["rule"]},
    "folding": {"names_of": ["rule"], "folded": ["rule"], "folded_row": ["rule", "row"], "tower": ["rule"], "level": ["rule"],
                "end_behind": ["rule", "kind", "kinds"], "judge_level": ["rule", "m"], "level_holds": ["rule", "m", "thing"]},
    "parting": {"is_closed": ["rule", "thing"], "lots": ["rule"], "is_calm": ["rule"], "judge_parted": ["rule"],
                "parted_holds": ["rule", "thing"], "restricted": ["rule", "closed"], "is_keeping": ["rule", "thing"],
                "crossed": ["one", "other", "f", "g"], "beside": ["one", "other"], "crossing_of": ["rule", "closed"]},
    "naming": {"renamed": ["rule", "names"], "renamed_row": ["rule", "names", "row"], "least_name": ["rule"],
               "keepings": ["rule"], "many_named": ["rule"], "renamings": ["one", "other"], "judge_named": ["one", "other"],
               "named_holds": ["one", "other", "thing"], "all_rules": ["size"]},
    "twosums": {"is_twosum": ["thing"], "judge_twosum": ["pair"], "twosum_holds": ["pair", "thing"],
                "inner_turn": ["twosum", "a"], "still_part": ["twosum"], "folded_twosum": ["twosum"],
                "rule_of_twosum": ["twosum"], "round_of_row": ["twosum", "row"], "twosum_of_turns": ["rule"],
                "renamed_twosum": ["twosum", "names"], "least_twosum": ["twosum"], "twosum_renamings": ["one", "other"],
                "all_twosums": ["size"]},
    "desks": {"read_desk": ["text"]},
}

DESK = {"rule": [], "row": [], "order": [], "heap": [], "turn": [], "ways": [], "text": [], "undoable": [], "redoable": [],
        "put": ["kind"], "lead": ["kind"], "meet": ["place"], "rearrange": ["row"], "divide": ["row"], "rename": ["names"],
        "fold": [], "undo": [], "redo": [], "copied": [], "is_same": ["thing"]}


class InterfaceTests(unittest.TestCase):
    def test_functions(self):
        for file, functions in INTERFACE.items():
            module = importlib.import_module(f"threesfit.{file}")
            for name, wanted in functions.items():
                function = getattr(module, name)
                self.assertTrue(inspect.isfunction(function), name)
                self.assertEqual(function.__module__, f"threesfit.{file}", name)
                parameters = inspect.signature(function).parameters.values()
                self.assertEqual([one.name for one in parameters], wanted, name)
                for one in parameters:
                    self.assertIs(one.kind, one.POSITIONAL_OR_KEYWORD)
                    self.assertIs(one.default, one.empty)

    def test_desks(self):
        desk = importlib.import_module("threesfit.desks").Desk
        self.assertEqual((desk.__module__, desk.__bases__), ("threesfit.desks", (object,)))
        self.assertEqual(list(inspect.signature(desk).parameters), ["rule"])
        for name, wanted in DESK.items():
            self.assertTrue(inspect.isfunction(vars(desk)[name]), name)
            parameters = list(inspect.signature(vars(desk)[name]).parameters.values())[1:]
            self.assertEqual([one.name for one in parameters], wanted, name)
            for one in parameters:
                self.assertIs(one.kind, one.POSITIONAL_OR_KEYWORD)
                self.assertIs(one.default, one.empty)
