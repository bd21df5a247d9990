import unittest

from deedloom import errors


class Errors(unittest.TestCase):
    REFUSALS = ("NoProgram", "TooLong", "NoLine", "NoName", "TooGreat")

    def test_loom_error_stands_under_value_error(self):
        self.assertEqual(errors.LoomError.__bases__, (ValueError,))

    def test_each_refusal_stands_straight_under_loom_error(self):
        for name in self.REFUSALS:
            with self.subTest(name=name):
                self.assertEqual(getattr(errors, name).__bases__, (errors.LoomError,))

    def test_no_refusal_stands_under_another(self):
        classes = [getattr(errors, name) for name in self.REFUSALS]
        for one in classes:
            for other in classes:
                self.assertEqual(issubclass(one, other), one is other)

    def test_a_refusal_is_taken_as_a_loom_error_and_as_no_other(self):
        for name in self.REFUSALS:
            with self.assertRaises(errors.LoomError) as taken:
                raise getattr(errors, name)("some words")
            self.assertEqual(type(taken.exception).__name__, name)


if __name__ == "__main__":
    unittest.main()
