"""The error classes of the interface."""

import unittest

from backtape.errors import NoMoment, NoRun, NoText, NoThing, TapeError

REFUSALS = (NoMoment, NoRun, NoThing, NoText)


class ErrorsTest(unittest.TestCase):
    def test_tape_error_is_a_value_error(self):
        self.assertTrue(issubclass(TapeError, ValueError))

    def test_every_refusal_is_below_tape_error(self):
        for refusal in REFUSALS:
            self.assertTrue(issubclass(refusal, TapeError), refusal)
            self.assertIsNot(refusal, TapeError)

    def test_no_refusal_is_below_another(self):
        for one in REFUSALS:
            for other in REFUSALS:
                if one is not other:
                    self.assertFalse(issubclass(one, other), (one, other))

    def test_the_names_are_those_of_the_interface(self):
        self.assertEqual([refusal.__name__ for refusal in REFUSALS], ["NoMoment", "NoRun", "NoThing", "NoText"])
        self.assertEqual(TapeError.__name__, "TapeError")

    def test_they_can_be_raised_and_taken(self):
        for refusal in REFUSALS:
            with self.assertRaises(TapeError):
                raise refusal("why")
            with self.assertRaises(ValueError):
                raise refusal()


if __name__ == "__main__":
    unittest.main()
