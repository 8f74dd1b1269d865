"""[1.2] The error classes and their attributes."""

import unittest

from kindgrove import errors

ARGUMENTS = {
    "BadValue": ["value"], "BadCount": ["count"], "NotGiven": ["name"], "TooMany": [], "TooLarge": [],
    "NoLabel": ["label"], "NoPair": ["label", "key"], "BadRecipe": ["at"], "BadWay": ["at"], "BadShape": ["path"],
    "BadSplit": [], "NoRow": ["number"], "Finished": [], "BadWork": ["at"], "BadOrder": ["at"],
}


class ErrorsTest(unittest.TestCase):

    def test_grove_error_is_a_value_error(self):
        self.assertEqual(errors.GroveError.__bases__, (ValueError,))

    def test_each_error_stands_straight_below_grove_error(self):
        for name in ARGUMENTS:
            with self.subTest(name):
                self.assertEqual(getattr(errors, name).__bases__, (errors.GroveError,))
                self.assertEqual(getattr(errors, name).__module__, "kindgrove.errors")

    def test_there_are_no_other_errors(self):
        found = {name for name, thing in vars(errors).items() if isinstance(thing, type)}
        self.assertEqual(found, set(ARGUMENTS) | {"GroveError"})

    def test_arguments_by_position_are_attributes(self):
        for name, arguments in ARGUMENTS.items():
            with self.subTest(name):
                told = [["what", index] for index in range(len(arguments))]
                self.check(getattr(errors, name)(*told), arguments, told)

    def test_arguments_by_name_are_attributes(self):
        for name, arguments in ARGUMENTS.items():
            with self.subTest(name):
                told = [("what", index) for index in range(len(arguments))]
                self.check(getattr(errors, name)(**dict(zip(arguments, told))), arguments, told)

    def test_arguments_by_name_in_the_other_order(self):
        error = errors.NoPair(key=1, label=2)
        self.assertEqual((error.label, error.key), (2, 1))

    def test_arguments_are_needed(self):
        for name, arguments in ARGUMENTS.items():
            if arguments:
                with self.subTest(name), self.assertRaises(TypeError):
                    getattr(errors, name)()

    def test_errors_can_be_raised_and_caught_as_value_errors(self):
        for name, arguments in ARGUMENTS.items():
            with self.subTest(name), self.assertRaises(ValueError) as caught:
                raise getattr(errors, name)(*arguments)
            self.assertEqual(vars(caught.exception), dict(zip(arguments, arguments)))

    def check(self, error, arguments, told):
        for argument, thing in zip(arguments, told):
            self.assertIs(getattr(error, argument), thing)
        self.assertEqual(sorted(vars(error)), sorted(arguments))


if __name__ == "__main__":
    unittest.main()
