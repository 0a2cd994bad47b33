"""The interface: each name is defined in the file under which it is listed, with those parameters."""

import importlib
import inspect
import unittest

FUNCTIONS = {
    "heaps": {"is_heap": ["value"], "reachable": ["heap"]},
    "marks": {
        "is_mark": ["value"], "is_table": ["value"], "all_marks": [], "joined": ["*tables"],
        "is_within": ["table", "other"], "shaded": ["table", "state", "holder", "old", "new"],
        "known_table": ["word"],
    },
    "states": {
        "start": ["heap"], "is_state": ["value"], "is_ended": ["table", "state"], "lost": ["state"],
        "covered": ["state"],
    },
    "steps": {"is_step": ["value"], "after": ["table", "state", "step"], "possible": ["table", "state"]},
    "runs": {
        "is_run": ["table", "value"], "states_of": ["table", "run"], "walk": ["table", "run"], "thread_steps": ["run"],
    },
    "properties": {"has": ["table", "state", "word"], "first_break": ["table", "run", "word"]},
    "judging": {
        "holds": ["table", "word"], "fewest_steps": ["table", "word"], "breaking_run": ["table", "word"],
        "properties_of": ["table"], "shows_break": ["table", "word", "value"],
    },
    "needless": {
        "needless": ["table", "word"], "needs_rescan": ["table", "word"], "least": ["table", "word"],
    },
    "prices": {"is_price_list": ["value"], "cheapest": ["table", "price_list", "word"]},
    "counting": {"count_within": ["table", "word"], "count_least": ["word", "rescans"]},
    "texts": {
        "format_table": ["table"], "format_heap": ["heap"], "format_steps": ["steps"], "parse_table": ["text"],
        "parse_heap": ["text"], "parse_steps": ["text"],
    },
}
METHODS = {
    "machine": {
        "Machine": {
            "__init__": ["self", "table", "heap"], "do": ["self", "step"], "undo": ["self"], "state": ["self"],
            "steps": ["self"], "is_ended": ["self"], "lost": ["self"], "possible": ["self"],
            "first_break": ["self", "word"], "collect": ["self"], "twin": ["self"], "__len__": ["self"],
            "__eq__": ["self", "other"],
        },
    },
    "desk": {"Desk": {"__init__": ["self"], "say": ["self", "line"]}},
}
GENERATORS = ["walk"]


def parameters_of(function):
    found = []
    for name, parameter in inspect.signature(function).parameters.items():
        star = "*" if parameter.kind == inspect.Parameter.VAR_POSITIONAL else ""
        plain = parameter.default is inspect.Parameter.empty
        found.append(star + name + ("" if plain else "="))
    return found


class Interface(unittest.TestCase):
    def test_functions(self):
        for name, functions in FUNCTIONS.items():
            module = importlib.import_module("shadebarriers." + name)
            for word, parameters in functions.items():
                function = getattr(module, word)
                self.assertTrue(inspect.isfunction(function), word)
                self.assertEqual(function.__module__, module.__name__)
                self.assertEqual(function.__name__, word)
                self.assertEqual(parameters_of(function), parameters)
                self.assertEqual(inspect.isgeneratorfunction(function), word in GENERATORS)

    def test_classes(self):
        for name, classes in METHODS.items():
            module = importlib.import_module("shadebarriers." + name)
            for word, methods in classes.items():
                made = getattr(module, word)
                self.assertEqual(made.__module__, module.__name__)
                self.assertEqual(made.__bases__, (object,))
                for method, parameters in methods.items():
                    self.assertTrue(inspect.isfunction(vars(made)[method]), method)
                    self.assertEqual(parameters_of(vars(made)[method]), parameters)

    def test_properties_and_class_methods(self):
        machine = vars(importlib.import_module("shadebarriers.machine").Machine)
        for name in ("table", "heap"):
            self.assertIsInstance(machine[name], property)
            self.assertIsNone(machine[name].fset)
            self.assertIsNone(machine[name].fdel)
        self.assertIsInstance(machine["replayed"], classmethod)
        self.assertEqual(parameters_of(machine["replayed"].__func__), ["cls", "table", "run"])

    def test_constant(self):
        module = importlib.import_module("shadebarriers.properties")
        self.assertIsInstance(module.PROPERTIES, tuple)

    def test_errors_are_defined_in_their_file(self):
        module = importlib.import_module("shadebarriers.errors")
        classes = [thing for thing in vars(module).values() if inspect.isclass(thing)]
        self.assertEqual(len(classes), 20)
        for thing in classes:
            self.assertEqual(thing.__module__, "shadebarriers.errors")


if __name__ == "__main__":
    unittest.main()
