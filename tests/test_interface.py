"""The names, arguments and methods that the interface lists, each where it lists them."""

import importlib
import inspect
import unittest

FUNCTIONS = {
    "paths": {"is_name": ["thing"], "is_path": ["thing"], "beginnings": ["path"], "parent": ["path"]},
    "rows": {"is_row": ["thing"], "is_body": ["thing"], "bound_by": ["row"], "counted": ["body"]},
    "bodytexts": {"body_text": ["body"], "read_body": ["text"]},
    "things": {"told": ["thing"]},
    "looking": {"look": ["module", "name", "chain"], "follow": ["module", "road", "chain"], "asked": ["late", "chain"]},
    "plain": {"is_plain": ["thing"], "reach": ["stock", "name"], "knots": ["stock"]},
    "safe": {"is_lot": ["stock", "name", "row", "thing"], "is_snare": ["stock", "thing"], "safe": ["stock"]},
    "orders": {"foretold": ["stock", "name"], "order": ["stock"], "is_single": ["stock"], "heads_first": ["stock"],
               "by_paths": ["house"]},
}
CLASSES = {
    ("things", "Module"): {"__init__": ["number", "path"], "bind": ["name", "thing"], "has": ["name"],
                           "thing_of": ["name"], "bound": []},
    ("things", "Late"): {"__init__": ["home", "road"]},
    ("runs", "Runs"): {"__init__": ["finders"], "take": ["path"], "table": [], "log": [], "paper": [],
                       "path_of": ["number"], "names_of": ["number"], "state_of": ["number"]},
    ("draws", "Draws"): {"thing": ["path", "road"], "ask": ["path", "road"]},
    ("tries", "Tries"): {},
    ("within", "Within"): {},
    ("house", "House"): {"put": ["k", "path", "body"], "let_go": ["path"], "anew": ["path"]},
}
# Each class of a house with the one straight above it.
BASES = [("runs", "Runs"), ("draws", "Draws"), ("tries", "Tries"), ("within", "Within"), ("house", "House")]


def file_of(name):
    return importlib.import_module("halfmade." + name)


class TestInterface(unittest.TestCase):
    def test_functions(self):
        for file, functions in FUNCTIONS.items():
            for name, arguments in functions.items():
                function = getattr(file_of(file), name)
                self.assertEqual(list(inspect.signature(function).parameters), arguments, name)
                self.assertEqual(function.__module__, "halfmade." + file)

    def test_methods_stand_in_the_class_itself(self):
        for (file, name), methods in CLASSES.items():
            kind = getattr(file_of(file), name)
            for method, arguments in methods.items():
                self.assertIn(method, vars(kind), name)
                self.assertEqual(list(inspect.signature(vars(kind)[method]).parameters), ["self"] + arguments, method)

    def test_each_class_of_a_house_is_straight_under_the_one_ahead(self):
        kinds = [getattr(file_of(file), name) for file, name in BASES]
        for above, below in zip([object] + kinds, kinds):
            self.assertEqual(below.__bases__, (above,))


if __name__ == "__main__":
    unittest.main()
