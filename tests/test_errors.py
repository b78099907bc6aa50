"""The error classes."""

import unittest

from tests.samples import DEEP, STRANGE
from threesfit import errors

WITH_THING = ["BadTable", "BadRule", "BadStars", "BadKind", "BadRow", "BadPlace", "BadOrder", "BadHeap", "BadMotion",
              "BadWord", "BadSteps", "BadTurn", "BadNames", "BadLot", "BadTwoSum", "BadDeed", "BadNumber"]
WITHOUT = ["NotAlike", "NoRest", "NoFold", "TooLong", "NothingToUndo", "NothingToRedo"]


class ErrorTests(unittest.TestCase):
    def test_base_class(self):
        self.assertEqual(errors.FitError.__bases__, (Exception,))
        self.assertIsInstance(errors.FitError(), Exception)

    def test_direct_subclasses(self):
        for name in WITH_THING + WITHOUT + ["BadText"]:
            made = getattr(errors, name)
            self.assertEqual(made.__bases__, (errors.FitError,), name)
            self.assertEqual(made.__module__, "threesfit.errors")
            self.assertEqual(made.__name__, name)

    def test_no_other_classes(self):
        listed = set(WITH_THING + WITHOUT + ["BadText", "FitError"])
        found = {name for name in vars(errors) if isinstance(getattr(errors, name), type)}
        self.assertEqual(found, listed)

    def test_thing_is_kept(self):
        for name in WITH_THING:
            made = getattr(errors, name)
            self.assertIn("__init__", vars(made))
            for thing in STRANGE + [DEEP, ()]:
                self.assertIs(made(thing).thing, thing)
                self.assertIs(made(thing=thing).thing, thing)
            self.assertRaises(TypeError, made)
            self.assertRaises(TypeError, made, 1, 2)
            self.assertRaises(TypeError, made, at=1)

    def test_line_is_kept(self):
        for at in [0, 1, 9, None, [1], "x"]:
            self.assertIs(errors.BadText(at).at, at)
            self.assertIs(errors.BadText(at=at).at, at)
        self.assertRaises(TypeError, errors.BadText)
        self.assertRaises(TypeError, errors.BadText, thing=1)

    def test_errors_without_parameters(self):
        for name in WITHOUT:
            with self.assertRaises(errors.FitError):
                raise getattr(errors, name)()
            self.assertEqual(vars(getattr(errors, name)()), {})
