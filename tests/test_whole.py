"""The guarantee of the document over the whole program, and any value, desks included, in every place."""

import copy
import importlib
from itertools import combinations_with_replacement, product

from tests.samples import (BOTH, CALM, CYCLE, DEEP, GUARD, ONE, SIX_RULES, STRANGE, STUCK, Case, beside, class_of, distances_from,
                           faults_of, plain_frozen, plain_motion, plain_word_motion, rows_of, shifted)
from tests.test_interface import INTERFACE
from threesfit import errors
from threesfit.desks import Desk
from threesfit.dividing import divides, divides_right
from threesfit.folding import folded, folded_row, tower
from threesfit.likeness import alike_holds, are_alike, distance, heaps_of_length, judge_alike
from threesfit.naming import all_rules, least_name, renamed, renamed_row, renamings
from threesfit.orders import heap_of, right_heap
from threesfit.parting import lots
from threesfit.rules import is_rule, judge_rule, mirror, rule_holds
from threesfit.words import are_same, drift_holds, judge_drift, motion_power, word_motion

LEAST = [rule for n in range(1, 5) for rule in all_rules(n)]
SOME = LEAST[:8] + LEAST[8::4] + [STUCK, shifted(5), beside(GUARD, BOTH), SIX_RULES[1]]
FAIR = (((0, 1), (1, 0)), ((0, 1), (1, 0)))


def most_items(rule):
    return {1: 5, 2: 4, 3: 3, 4: 3}.get(len(rule), 2)


class GuaranteeTests(Case):
    def test_rules_and_faults(self):
        for rule in LEAST:
            self.is_just((judge_rule(rule), rule_holds(rule, ("rule",))), (("rule",), True))
            n = len(rule)
            for x, y in product(range(n), repeat=2):
                line = rule[x][:y] + ((rule[x][y][1], (rule[x][y][0] + 1) % n),) + rule[x][y + 1:]
                table = rule[:x] + (line,) + rule[x + 1:]
                faults = faults_of(table)
                found = judge_rule(table)
                self.is_just(is_rule(table), not faults)
                self.assertTrue(found in faults if faults else found == ("rule",))
                self.is_just((rule_holds(table, found), rule_holds(table, ("rule",))), (True, not faults))
        self.is_just([len(all_rules(n)) for n in range(1, 5)], [1, 2, 5, 23])

    def test_alike_rows_before_and_behind(self):
        for rule in SOME:
            n = len(rule)
            p = tuple((x * (n - 1) + 1) % n for x in range(n))
            other, small = renamed(rule, p), folded(rule)
            for row in list(rows_of(n, most_items(rule)))[::7]:
                alike = distances_from(rule, row)
                for one in product(range(n), repeat=len(row)):
                    wanted = one in alike
                    self.is_just((are_alike(rule, row, one), heap_of(rule, row) == heap_of(rule, one)), (wanted, wanted))
                    self.is_just(right_heap(rule, row) == right_heap(rule, one), wanted)
                    self.is_just(are_alike(other, renamed_row(rule, p, row), renamed_row(rule, p, one)), wanted)
                    self.is_just(are_alike(mirror(rule), row[::-1], one[::-1]), wanted)
                    if wanted:
                        self.is_just(are_alike(small, folded_row(rule, row), folded_row(rule, one)), True)
                        self.is_just((distance(rule, row, one), len(judge_alike(rule, row, one)[1])), (alike[one],) * 2)
                    self.is_just(alike_holds(rule, row, one, judge_alike(rule, row, one)), True)

    def test_dividing(self):
        for rule in SOME:
            rows = list(rows_of(len(rule), 2 if len(rule) > 2 else 3))
            for one, other in list(product(rows, repeat=2))[::5]:
                left = any(row[:len(one)] == one for row in class_of(rule, other)) if len(one) <= len(other) else False
                right = any(row[len(other) - len(one):] == one for row in class_of(rule, other)) if len(one) <= len(other) else False
                self.is_just((divides(rule, one, other), divides_right(rule, one, other)), (left, right))
                self.is_just(all(a <= b for a, b in zip(heap_of(rule, one), heap_of(rule, other))), left)
                self.is_just(all(a <= b for a, b in zip(right_heap(rule, one), right_heap(rule, other))), right)

    def test_words(self):
        for rule in SOME:
            n = len(rule)
            letters = [letter for letter in range(-n, n + 1) if letter]
            words = [(), (1, -1), (n,), (1, 1), (-1, n)] + [tuple(letters[(k * k + step * k) % len(letters)] for k in range(9)) for step in range(5)]
            for one, other in product(words, repeat=2):
                self.is_just(are_same(rule, one, other), plain_word_motion(rule, one) == plain_word_motion(rule, other))
            for word in words:
                motion = word_motion(rule, word)
                self.is_just(drift_holds(rule, motion, judge_drift(rule, motion)), True)
                empty = not any(motion[0])
                for k in (-10 ** 30, -7, -2, -1, 1, 2, 3, 4, 5, 6, 12, 60, 10 ** 30):
                    self.is_just(not any(motion_power(motion, k)[0]), empty)

    def test_towers_and_lots(self):
        for rule in LEAST + SOME:
            last = tower(rule)[-1]
            self.is_just((folded(last), len(last) == 1 or folded(last) == last), (last, True))
            reached = {plain_motion(rule, row)[1][0] for row in rows_of(len(rule), len(rule) - 1)}
            self.is_just(len(lots(rule)) == 1, reached == set(range(len(rule))))

    def test_names(self):
        for one, other in combinations_with_replacement(LEAST, 2):
            n = len(other)
            p = tuple((x * (n - 1) + 2) % n for x in range(n))
            self.is_just((bool(renamings(one, renamed(other, p))), least_name(renamed(other, p)) == one), (one == other,) * 2)

    def test_numbers_of_classes(self):
        for rule in LEAST[:8]:
            for length in range(5):
                classes = {min(class_of(rule, row)) for row in product(range(len(rule)), repeat=length)}
                self.is_just(len(classes), len(heaps_of_length(len(rule), length)))


def errors_of(name, parameters):
    """Which error each parameter of a function is due, None where the values that are passed have to be right."""
    if parameters[0] in ("one", "other") and name not in ("motion_product",):
        first = "BadTwoSum" if name == "twosum_renamings" else "BadRule"
        return {"one": first, "other": first, "f": "BadNames", "g": "BadNames"}
    table = {"rule": "BadRule", "twosum": "BadTwoSum", "table": "BadTable", "x": "BadKind", "y": "BadKind", "row": "BadRow", "place": "BadPlace",
             "grid": "BadStars", "stars": "BadStars", "order": "BadOrder", "heap": "BadHeap", "block": "BadRow", "times": "BadPlace",
             "motion": "BadMotion", "number": "BadPlace", "form": "BadSteps", "power": "BadNumber", "word": "BadWord", "deed": "BadDeed",
             "k": "BadNumber", "kind": "BadKind", "element": "BadHeap", "turn": "BadTurn", "kinds": "BadRow", "m": "BadNumber",
             "closed": "BadLot", "names": "BadNames", "a": "BadKind"}
    pairs = {"letters_met": "BadWord", "are_same": "BadWord", "judge_words": "BadWord", "words_hold": "BadWord", "world_product": "BadHeap",
             "leads_over": "BadMotion", "turn_sum": "BadTurn", "motion_product": "BadMotion"}
    both = pairs.get(name, "BadRow")
    return {**table, "one": both, "other": both}


# Right values for the rule BOTH, or for a two-sum of two numbers.
RIGHT = {"rule": BOTH, "twosum": FAIR, "table": BOTH, "x": 0, "y": 1, "row": (0, 1), "place": 0, "grid": ((0, 1), (0, 1)), "stars": ((0, 1), (0, 1)),
         "order": (0,), "heap": (1, 0), "block": (0,), "times": 3, "motion": ((1, 1), (0, 1)), "number": 0, "form": ((1, 0),), "power": 2,
         "word": (1, -1), "deed": ("meet", 0), "k": 1, "kind": 0, "element": (1, 0), "turn": (1, 0), "kinds": (0,), "m": 1, "closed": (0, 1),
         "names": (0, 1), "a": 0, "f": (0, 1), "g": (0, 1), "thing": None}
UNCHECKED = {("motion_power", "motion"), ("motion_power", "k"), ("moved", "motion"), ("moved", "point"), ("judge_twosum", "pair"),
             ("twosum_holds", "pair"), ("heaps_of_length", "n"), ("heaps_of_length", "length"), ("all_rules", "size"), ("all_twosums", "size"),
             ("read_table", "text"), ("read_desk", "text")}
DESK = Desk(GUARD)
DESK.put(2)
ANY = [DESK, (DESK,), [DESK], {0: DESK}, (0, DESK), ((DESK, DESK), (DESK, DESK)), (((0, 0), (1, DESK)), ((0, 1), (1, 1))), DEEP, None, "word", False,
       ((1, 0), (DESK, 0)), ("meet", DESK), (("meet", 0), DESK)]


def right_value(name, parameter):
    if parameter in ("one", "other"):
        values = {"letters_met": 1, "are_same": (1,), "judge_words": (1,), "words_hold": (1,), "world_product": (1, 0),
                  "leads_over": ((1, 1), (0, 1)), "turn_sum": (1, 0), "motion_product": ((1, 1), (0, 1)), "twosum_renamings": FAIR,
                  "crossed": BOTH, "beside": BOTH, "renamings": BOTH, "judge_named": BOTH, "named_holds": BOTH}
        return values.get(name, (0,))
    return {("crossing_of", "closed"): (0,)}.get((name, parameter), RIGHT[parameter])


def functions():
    for file, names in INTERFACE.items():
        for name, parameters in names.items():
            if not any((name, parameter) in UNCHECKED for parameter in parameters):
                yield name, parameters, getattr(importlib.import_module(f"threesfit.{file}"), name)


class AnyValueTests(Case):
    def refused(self, wanted, thing, function, values):
        with self.assertRaises(getattr(errors, wanted), msg=(function, values)) as caught:
            function(**values)
        self.assertIs(type(caught.exception), getattr(errors, wanted))
        self.assertIs(caught.exception.thing, thing)

    def test_errors_in_their_order(self):
        for name, parameters, function in functions():
            due = errors_of(name, parameters)
            checked = [parameter for parameter in parameters if parameter != "thing"]
            for k, parameter in enumerate(checked):
                for thing, more in product(ANY, (None, DESK, "right")):
                    values = {other: right_value(name, other) for other in parameters}
                    values[parameter] = thing
                    if more != "right":
                        values.update({other: more for other in parameters if other not in checked[:k + 1]})
                    self.refused(due[parameter], thing, function, values)

    def test_any_thing(self):
        for name, parameters, function in functions():
            if "thing" not in parameters:
                continue
            for thing in ANY + STRANGE:
                values = {parameter: right_value(name, parameter) for parameter in parameters}
                values["thing"] = thing
                before = copy.copy(values)
                self.assertIn(function(**values), (True, False))
                if any(part is DESK for part in (thing if type(thing) in (tuple, list) else [thing])):
                    self.is_just(function(**values), False)
                self.assertEqual(values, before)
                self.is_just(function(*[values[parameter] for parameter in parameters]), function(**values))

    def test_equal_calls(self):
        for name, parameters, function in functions():
            if "thing" not in parameters:
                values = [right_value(name, parameter) for parameter in parameters]
                if name not in ("crossing_of", "distance", "rest", "rest_right"):
                    self.is_just(function(*values), function(*copy.deepcopy(values)))

    def test_desks_are_not_changed(self):
        self.is_just((DESK.row(), DESK.undoable(), DESK.redoable()), ((2,), 1, 0))

    def test_frozen_numbers_up_to_names(self):
        for rule in SOME:
            p = tuple(range(1, len(rule))) + (0,)
            self.is_just(plain_frozen(renamed(rule, p)), plain_frozen(rule))
        self.is_just((plain_frozen(ONE), plain_frozen(CALM), plain_frozen(CYCLE)), (1, 1, 3))
