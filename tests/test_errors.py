"""The refusals' classes, and how they stand to one another."""

import unittest

from timecourt import errors

REFUSALS = (
    "BadWorld", "BadSentence", "BadMachine", "TooMany", "NoBranch",
    "OtherFair", "NoAhead", "NoText", "NoLine", "NoWorld",
)


class Refusals(unittest.TestCase):
    def test_any_refusal_is_a_value_error(self):
        self.assertEqual(errors.TimeError.__bases__, (ValueError,))

    def test_each_refusal_stands_straight_under_it(self):
        for name in REFUSALS:
            with self.subTest(name=name):
                self.assertEqual(getattr(errors, name).__bases__, (errors.TimeError,))
                self.assertEqual(getattr(errors, name).__name__, name)

    def test_no_refusal_stands_under_another_one(self):
        classes = [getattr(errors, name) for name in REFUSALS]
        for one in classes:
            for other in classes:
                with self.subTest(one=one, other=other):
                    self.assertEqual(issubclass(one, other), one is other)

    def test_a_refusal_has_no_fields(self):
        for name in REFUSALS + ("TimeError",):
            with self.subTest(name=name):
                self.assertEqual(vars(getattr(errors, name)("words")), {})


if __name__ == "__main__":
    unittest.main()
