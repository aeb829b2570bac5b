"""Point 2: the classes of refusal."""

import unittest

from endnever import errors

NAMES = ["NoMachine", "NoText", "NoName", "Twice", "Full", "NoSuch", "NoPaper", "NoDeed", "NoSize", "NoWidth", "NoLine"]


class Refusals(unittest.TestCase):

    def test_each_stands_straight_under_mill_error(self):
        self.assertEqual(errors.MillError.__bases__, (ValueError,))
        for name in NAMES:
            self.assertEqual(getattr(errors, name).__bases__, (errors.MillError,), name)

    def test_made_of_nothing_or_of_one_text_each_is_none_of_the_others(self):
        for name in NAMES:
            for made in (getattr(errors, name)(), getattr(errors, name)("why it is so")):
                self.assertIsInstance(made, errors.MillError)
                self.assertIsInstance(made, ValueError)
                kinds = [other for other in NAMES if isinstance(made, getattr(errors, other))]
                self.assertEqual(kinds, [name])

    def test_mill_error_made_of_nothing_or_of_one_text_is_none_of_the_eleven(self):
        for made in (errors.MillError(), errors.MillError("why it is so")):
            self.assertIsInstance(made, ValueError)
            self.assertEqual([name for name in NAMES if isinstance(made, getattr(errors, name))], [])

    def test_each_can_be_raised_and_taken_as_mill_error(self):
        for name in NAMES:
            with self.assertRaises(errors.MillError):
                raise getattr(errors, name)("why it is so")
            with self.assertRaises(errors.MillError):
                raise getattr(errors, name)


if __name__ == "__main__":
    unittest.main()
