"""Points 2 and 20: the errors."""

import unittest

from spoilorder import errors
from tests.common import any_values

ARGUMENTS = {
    "value": """BadShop NoCheck BadLog BadFilling NoThing BadWorld BadMany NoWorker NoItem BadOrder OtherItems
        NotFailing NoWorld BadHeld NoLetter NotTold NoSample BadItems BadWorkers Full BadRuns BadTrials BadQuestion
        BadMost BadPrices BadOutcome NoEvent BadChecks NothingToUndo BadOffers BadLine""",
    "number": "TooMany",
    "line": "BadText",
}
NAMES = [(name, argument) for argument, names in ARGUMENTS.items() for name in names.split()]


class ErrorsTest(unittest.TestCase):
    def test_there_are_thirty_three(self):
        self.assertEqual(len(NAMES), 33)
        found = [name for name, value in vars(errors).items() if isinstance(value, type)]
        self.assertEqual(sorted(found), sorted(["SpoilError"] + [name for name, _ in NAMES]))

    def test_bases(self):
        self.assertEqual(errors.SpoilError.__bases__, (ValueError,))
        for name, _ in NAMES:
            self.assertEqual(getattr(errors, name).__bases__, (errors.SpoilError,), name)

    def test_defined_in_the_file(self):
        for name, _ in NAMES:
            self.assertEqual(getattr(errors, name).__module__, "spoilorder.errors")

    def test_very_value_kept(self):
        for name, argument in NAMES:
            made = getattr(errors, name)
            for value in any_values():
                for error in (made(value), made(**{argument: value})):
                    self.assertEqual(list(vars(error)), [argument])
                    self.assertIs(getattr(error, argument), value)

    def test_raised_and_caught(self):
        for name, argument in NAMES:
            with self.assertRaises(errors.SpoilError) as caught:
                raise getattr(errors, name)([name])
            self.assertEqual(getattr(caught.exception, argument), [name])
            self.assertIsInstance(str(caught.exception), str)

    def test_one_argument(self):
        for name, argument in NAMES:
            made = getattr(errors, name)
            self.assertRaises(TypeError, made)
            self.assertRaises(TypeError, made, 1, 2)
            self.assertRaises(TypeError, made, **{argument + "s": 1})


if __name__ == "__main__":
    unittest.main()
