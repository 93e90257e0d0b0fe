"""[0.5] and the row of the interface that lists the errors."""

import inspect
import unittest

from risingcalls import errors
from worlds import Case

ATTRIBUTES = {
    "BadGoals": ("what",), "BadCouple": (), "BadLot": ("side",), "BadOrder": (), "BadSide": (),
    "BadMarks": ("index", "what"), "BadText": ("number", "what"), "BadRow": (), "BadSystem": ("index", "what"),
    "NoAnswer": ("row",), "BadFoe": ("index",), "NotAlike": ("what",), "HasGap": ("row", "kind"), "HasFoes": (),
    "BadRule": ("what",), "BadBook": ("index",), "NoRule": ("number",), "BadLadder": (), "BadKind": (),
    "BadRaise": (), "BadStand": ("what",), "BadPart": (), "BadWord": ("word",), "NotLost": ("label",),
    "BadKinds": (), "BadEnds": (), "BadEnd": (), "BadWords": (), "BadBranch": ("index", "label"), "BadLeap": (),
    "BadFoeBook": ("index", "what"), "BadCosts": ("what",), "BadWeights": ("what",),
    "BadMixture": ("index", "what"), "BadHabit": ("what",), "TooWide": (), "BadPool": ("index",),
    "BadTalk": ("index",), "BadMost": (), "BadSlipStand": (), "BadChange": ("index", "what"),
    "BadWish": ("index",), "NoChange": ("number",),
}


class Errors(Case):
    def test_call_error_is_directly_under_value_error(self):
        self.assertEqual(errors.CallError.__bases__, (ValueError,))
        self.assertIsInstance(errors.CallError("why"), ValueError)

    def test_there_are_just_these_errors(self):
        found = [name for name, thing in vars(errors).items() if inspect.isclass(thing)]
        self.assertEqual(sorted(found), sorted([*ATTRIBUTES, "CallError"]))

    def test_each_is_directly_under_call_error_and_defined_here(self):
        for name in ATTRIBUTES:
            error = getattr(errors, name)
            self.assertEqual(error.__bases__, (errors.CallError,), name)
            self.assertEqual(error.__module__, "risingcalls.errors")

    def test_each_keeps_its_arguments_under_their_names(self):
        for name, attributes in ATTRIBUTES.items():
            values = [object() for _ in attributes]
            error = getattr(errors, name)
            self.assertEqual(vars(error(*values)), dict(zip(attributes, values)), name)
            self.assertEqual(vars(error(**dict(zip(attributes, values)))), dict(zip(attributes, values)), name)

    def test_each_takes_just_its_arguments(self):
        for name, attributes in ATTRIBUTES.items():
            if attributes:
                signature = inspect.signature(getattr(errors, name).__init__)
                self.assertEqual(tuple(signature.parameters), ("self", *attributes))
                self.assertTrue(all(one.default is one.empty for one in signature.parameters.values()))

    def test_each_is_caught_by_its_own_name_and_by_call_error_alone(self):
        for name, attributes in ATTRIBUTES.items():
            with self.assertRaises(errors.CallError) as held:
                raise getattr(errors, name)(*attributes)
            others = [other for other in ATTRIBUTES if other != name]
            self.assertFalse([other for other in others if isinstance(held.exception, getattr(errors, other))])


if __name__ == "__main__":
    unittest.main()
