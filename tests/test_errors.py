"""Point [2]: the errors."""

import copy
import inspect
import unittest

from shadebarriers import errors
from tests.values import ANY, same

NAMES = {
    "BadProperty": "word", "BadWord": "word", "BadStep": "step", "Ended": None, "NoThread": "thread",
    "NoObject": "number", "NotHeld": "number", "NoSlot": "slot", "EmptySlot": "slot", "Full": None,
    "Visited": "thread", "NotGrey": "number", "Broken": "word", "BadTable": "value", "BadHeap": "value",
    "NothingToUndo": None, "BadText": "row", "BadLine": "line", "NoMachine": None,
}
WITH_ARGUMENT = {name: kept for name, kept in NAMES.items() if kept is not None}
WITHOUT = [name for name, kept in NAMES.items() if kept is None]


class Families(unittest.TestCase):
    def test_there_are_nineteen(self):
        self.assertEqual(len(NAMES), 19)
        classes = [name for name, thing in vars(errors).items() if inspect.isclass(thing)]
        self.assertEqual(sorted(classes), sorted(["ShadeError", *NAMES]))

    def test_the_common_error_is_a_value_error(self):
        self.assertTrue(issubclass(errors.ShadeError, ValueError))

    def test_all_are_direct_subclasses(self):
        for name in NAMES:
            self.assertEqual(getattr(errors, name).__bases__, (errors.ShadeError,), name)

    def test_each_is_caught_as_the_common_error_and_no_other(self):
        for name, kept in NAMES.items():
            made = getattr(errors, name)(*([] if kept is None else [0]))
            self.assertIsInstance(made, errors.ShadeError)
            others = [other for other in NAMES if isinstance(made, getattr(errors, other))]
            self.assertEqual(others, [name])


class Arguments(unittest.TestCase):
    def test_kept_for_any_value_by_position_and_by_name(self):
        for name, kept in WITH_ARGUMENT.items():
            for value in ANY:
                before = copy.deepcopy(value)
                by_position = getattr(errors, name)(value)
                by_name = getattr(errors, name)(**{kept: value})
                self.assertIs(getattr(by_position, kept), value)
                self.assertIs(getattr(by_name, kept), value)
                self.assertTrue(same(before, value))

    def test_signatures(self):
        for name, kept in NAMES.items():
            parameters = list(inspect.signature(getattr(errors, name)).parameters)
            self.assertEqual(parameters, [] if kept is None else [kept], name)

    def test_wrong_numbers_of_arguments(self):
        for name in WITH_ARGUMENT:
            self.assertRaises(TypeError, getattr(errors, name))
            self.assertRaises(TypeError, getattr(errors, name), 0, 1)
        for name in WITHOUT:
            self.assertRaises(TypeError, getattr(errors, name), 0)

    def test_raised_and_caught(self):
        for name, kept in WITH_ARGUMENT.items():
            with self.assertRaises(getattr(errors, name)) as caught:
                raise getattr(errors, name)([1, {"a": None}])
            self.assertEqual(getattr(caught.exception, kept), [1, {"a": None}])
        for name in WITHOUT:
            with self.assertRaises(errors.ShadeError):
                raise getattr(errors, name)()

    def test_shown_and_copied_whatever_they_keep(self):
        for name, kept in WITH_ARGUMENT.items():
            for value in ANY:
                made = getattr(errors, name)(value)
                self.assertIsInstance(str(made), str)
                self.assertTrue(same(getattr(copy.copy(made), kept), value))
        for name in WITHOUT:
            self.assertIsInstance(copy.copy(getattr(errors, name)()), getattr(errors, name))


if __name__ == "__main__":
    unittest.main()
