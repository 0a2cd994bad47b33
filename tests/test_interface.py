"""The interface: each name is defined in the file under which it is listed, with those parameters."""

import importlib
import inspect
import unittest

FUNCTIONS = {
    "heaps": {"is_heap": ["value"], "reachable": ["heap"]},
    "marks": {
        "is_mark": ["value"], "is_table": ["value"], "all_marks": [], "joined": ["*tables"],
        "is_within": ["table", "other"], "shaded": ["table", "state", "holder", "old", "new"],
        "known_table": ["word"],
    },
    "states": {
        "start": ["heap"], "is_state": ["value"], "is_ended": ["table", "state"], "lost": ["state"],
        "covered": ["state"],
    },
    "steps": {"is_step": ["value"], "after": ["table", "state", "step"], "possible": ["table", "state"]},
    "runs": {
        "is_run": ["table", "value"], "states_of": ["table", "run"], "walk": ["table", "run"], "thread_steps": ["run"],
    },
    "properties": {"has": ["table", "state", "word"], "first_break": ["table", "run", "word"]},
    "judging": {
        "holds": ["table", "word"], "fewest_steps": ["table", "word"], "breaking_run": ["table", "word"],
        "properties_of": ["table"], "shows_break": ["table", "word", "value"],
    },
    "needless": {
        "needless": ["table", "word"], "needs_rescan": ["table", "word"], "least": ["table", "word"],
    },
    "prices": {"is_price_list": ["value"], "cheapest": ["table", "price_list", "word"]},
}
GENERATORS = ["walk"]


def parameters_of(function):
    found = []
    for name, parameter in inspect.signature(function).parameters.items():
        star = "*" if parameter.kind == inspect.Parameter.VAR_POSITIONAL else ""
        plain = parameter.default is inspect.Parameter.empty
        found.append(star + name + ("" if plain else "="))
    return found


class Interface(unittest.TestCase):
    def test_functions(self):
        for name, functions in FUNCTIONS.items():
            module = importlib.import_module("shadebarriers." + name)
            for word, parameters in functions.items():
                function = getattr(module, word)
                self.assertTrue(inspect.isfunction(function), word)
                self.assertEqual(function.__module__, module.__name__)
                self.assertEqual(function.__name__, word)
                self.assertEqual(parameters_of(function), parameters)
                self.assertEqual(inspect.isgeneratorfunction(function), word in GENERATORS)

    def test_constant(self):
        module = importlib.import_module("shadebarriers.properties")
        self.assertIsInstance(module.PROPERTIES, tuple)

    def test_errors_are_defined_in_their_file(self):
        module = importlib.import_module("shadebarriers.errors")
        classes = [thing for thing in vars(module).values() if inspect.isclass(thing)]
        self.assertEqual(len(classes), 20)
        for thing in classes:
            self.assertEqual(thing.__module__, "shadebarriers.errors")


if __name__ == "__main__":
    unittest.main()
