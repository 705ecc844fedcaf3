"""Point 5: the classes of the refusals, and their fields."""

import unittest

from onestaff import errors
from onestaff.errors import StaffError
from tests.things import any_things

FOUND = """
NoName NoPlace NoTrain NoTrains NoEnds NoStretch NoLong NoPlaces NoStretches NoLongs NoNumber NoThing NoKind NoWord
NoDeed NoWay NoUse NoBooks NoRows NoMove NoRuns NoRun NoLine NoState Twice NotHere NotIn NotHeld NotHelped Full Lacks
Shut Held NotClear NoTickets NoRight NotShut Taken Boxed Silent
""".split()
FIELDS = {name: "found" for name in FOUND}
FIELDS.update({"TooMany": "many", "NoText": "row", "Gap": "number", "NotSo": "number", "NoTrip": "run"})
BARE = ["NoStart", "NoBack"]


class Errors(unittest.TestCase):
    def test_just_these_classes_are_there(self):
        classes = [name for name, thing in vars(errors).items() if isinstance(thing, type)]
        self.assertEqual(sorted(classes), sorted(list(FIELDS) + BARE + ["StaffError"]))
        for name in classes:
            self.assertEqual(getattr(errors, name).__module__, "onestaff.errors")

    def test_staff_error_is_made_of_one_text(self):
        self.assertEqual(StaffError.__bases__, (ValueError,))
        self.assertEqual(str(StaffError("no train may pass")), "no train may pass")

    def test_each_stands_straight_under_staff_error(self):
        for name in list(FIELDS) + BARE:
            self.assertEqual(getattr(errors, name).__bases__, (StaffError,), name)

    def test_fields_are_the_very_things(self):
        for name, field in FIELDS.items():
            for thing in any_things():
                refusal = getattr(errors, name)(thing)
                self.assertIs(getattr(refusal, field), thing, name)
                self.assertEqual(list(vars(refusal)), [field], name)

    def test_a_field_is_no_copy(self):
        thing = ["a"]
        refusal = errors.NoName(thing)
        thing.append("b")
        self.assertEqual(refusal.found, ["a", "b"])

    def test_two_are_made_of_nothing(self):
        for name in BARE:
            refusal = getattr(errors, name)()
            self.assertEqual(vars(refusal), {}, name)
            with self.assertRaises(TypeError):
                getattr(errors, name)("thing")

    def test_each_is_caught_as_a_refusal(self):
        for name in FIELDS:
            with self.assertRaises(StaffError):
                raise getattr(errors, name)(None)
        for name in BARE:
            with self.assertRaises(StaffError):
                raise getattr(errors, name)()


if __name__ == "__main__":
    unittest.main()
