import unittest

from crossline import errors


class ErrorClasses(unittest.TestCase):
    def test_line_error_stands_under_value_error(self):
        self.assertEqual(errors.LineError.__bases__, (ValueError,))

    def test_each_refusal_stands_straight_under_line_error(self):
        for name in ("NoPoint", "NoChange", "NoThree", "NoTimes", "NoNote"):
            with self.subTest(name=name):
                self.assertEqual(getattr(errors, name).__bases__, (errors.LineError,))

    def test_no_two_refusals_are_one(self):
        refusals = {errors.NoPoint, errors.NoChange, errors.NoThree, errors.NoTimes, errors.NoNote}
        self.assertEqual(len(refusals), 5)


if __name__ == "__main__":
    unittest.main()
