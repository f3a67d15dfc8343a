"""The names and signatures of the interface, each defined in the file under which it is listed."""

import importlib
import inspect
import unittest

FUNCTIONS = {
    "riverkeeps.names": [
        "is_name(text)", "check_name(text)", "first_duplicate(items)", "is_liking(liking, things)",
        "rank(liking, thing)", "best(liking, things, many)", "excess(liking, things, many)",
        "restrict(liking, things)", "dropped(liking, thing)", "inserted(liking, thing, at)", "exchanged(liking, at)",
    ],
    "riverkeeps.rivertext": ["write_river(river)", "read_river(text)", "is_river_text(text)"],
}

METHODS = {
    ("riverkeeps.rivers", "River"): [
        "__init__(self, towns, things)", "after(self, town)", "room(self, town)", "liking(self, town)",
        "feeders(self, town)", "springs(self, town)", "spring(self, thing)", "path(self, thing)",
        "prefers(self, town, one, other)", "town_rows(self)", "thing_rows(self)", "landings(self)",
        "landing_number(self, landing)", "__eq__(self, other)",
    ],
}

PROPERTIES = {
    ("riverkeeps.rivers", "River"): ["towns", "things"],
}


class Interface(unittest.TestCase):

    def test_functions(self):
        for module, signatures in FUNCTIONS.items():
            for signature in signatures:
                function = vars(importlib.import_module(module))[signature.split("(")[0]]
                with self.subTest(module, signature=signature):
                    self.assertEqual(function.__name__ + str(inspect.signature(function)), signature)
                    self.assertEqual(function.__module__, module)

    def test_methods_stand_in_the_class_itself(self):
        for (module, name), signatures in METHODS.items():
            made = vars(importlib.import_module(module))[name]
            self.assertEqual(made.__module__, module)
            for signature in signatures:
                method = vars(made)[signature.split("(")[0]]
                with self.subTest(name, signature=signature):
                    self.assertEqual(method.__name__ + str(inspect.signature(method)), signature)

    def test_properties_stand_in_the_class_itself(self):
        for (module, name), properties in PROPERTIES.items():
            made = vars(importlib.import_module(module))[name]
            for word in properties:
                self.assertIsInstance(vars(made)[word], property)


if __name__ == "__main__":
    unittest.main()
