"""The error classes: their attributes and their bases [8]."""

import unittest

from riverkeeps import errors

# Each class with its base class and its attributes.
CLASSES = {
    "RiverError": ("ValueError", []),
    "BadName": ("RiverError", ["name"]),
    "DuplicateName": ("RiverError", ["name"]),
    "BadCount": ("RiverError", ["what", "many"]),
    "BadNumber": ("RiverError", ["number"]),
    "BadKind": ("RiverError", ["kind"]),
    "BadRoom": ("RiverError", ["town"]),
    "BadLiking": ("RiverError", ["town"]),
    "Ring": ("RiverError", ["town"]),
    "TownNeeded": ("RiverError", ["town"]),
    "BadOutlet": ("RiverError", []),
    "NotComparable": ("RiverError", []),
    "OtherRiver": ("RiverError", []),
    "NothingToUndo": ("RiverError", []),
    "ClaimRefused": ("RiverError", []),
    "UnknownTown": ("RiverError", ["town"]),
    "UnknownThing": ("RiverError", ["thing"]),
    "BadPlace": ("RiverError", ["thing"]),
    "BadText": ("RiverError", ["line"]),
    "BadOrder": ("RiverError", ["at"]),
    "TooMany": ("RiverError", ["limit"]),
    "DeedRefused": ("RiverError", ["at", "cause"]),
    "OrderRefused": ("RiverError", ["spot", "cause"]),
    "LogRefused": ("RiverError", ["at"]),
    "NoFit": ("RiverError", ["at"]),
    "NotSimple": ("RiverError", ["at"]),
    "NotAfloat": ("RiverError", ["thing"]),
    "ThingKept": ("NotAfloat", ["thing", "town"]),
    "ThingAtSea": ("NotAfloat", ["thing"]),
    "LandingError": ("RiverError", ["landing"]),
    "UnknownLanding": ("LandingError", ["landing"]),
    "DuplicateLanding": ("LandingError", ["landing"]),
    "NotStage": ("LandingError", ["landing"]),
    "NoHistory": ("LandingError", ["landing"]),
    "NeverDone": ("LandingError", ["landing"]),
    "SameLanding": ("LandingError", ["landing"]),
    "WrongEnd": ("LandingError", ["landing"]),
}


class Errors(unittest.TestCase):

    def test_the_module_has_exactly_these_classes(self):
        found = [name for name, value in vars(errors).items() if isinstance(value, type)]
        self.assertEqual(sorted(found), sorted(CLASSES))

    def test_attributes_are_kept_as_they_are_passed(self):
        for name, (_, attributes) in CLASSES.items():
            values = [object() for _ in attributes]
            made = getattr(errors, name)(*values)
            with self.subTest(name):
                self.assertEqual(sorted(vars(made)), sorted(attributes))
                for attribute, value in zip(attributes, values):
                    self.assertIs(getattr(made, attribute), value)

    def test_a_passed_value_is_not_converted(self):
        self.assertIs(errors.BadNumber(True).number, True)
        self.assertEqual(errors.BadNumber(10 ** 59).number, 10 ** 59)
        self.assertEqual(errors.NotStage(("a", "hill")).landing, ("a", "hill"))
        self.assertEqual(errors.OrderRefused((1, 0, 2), "kept").spot, (1, 0, 2))
        self.assertEqual(errors.BadCount("things", 11).what, "things")

    def test_bases_are_those_of_the_interface_and_no_others(self):
        for name, (base, _) in CLASSES.items():
            expected = [name]
            while expected[-1] != "ValueError":
                expected.append(CLASSES[expected[-1]][0])
            found = [one.__name__ for one in getattr(errors, name).__mro__]
            with self.subTest(name):
                self.assertEqual(found, expected + ["Exception", "BaseException", "object"])
                self.assertEqual(expected[1], base)

    def test_each_can_be_raised_and_caught_by_the_base_class(self):
        for name, (_, attributes) in CLASSES.items():
            with self.subTest(name):
                with self.assertRaises(errors.RiverError):
                    raise getattr(errors, name)(*["x" for _ in attributes])


if __name__ == "__main__":
    unittest.main()
