import unittest

from crossbrace import errors

NAMES = ["NoFloor", "Apart", "Hollow", "NoText", "NoRow", "NoField", "NoDeed"]


class Errors(unittest.TestCase):
    def test_brace_error_is_a_value_error(self):
        self.assertEqual(errors.BraceError.__bases__, (ValueError,))

    def test_each_refusal_stands_straight_under_brace_error(self):
        for name in NAMES:
            with self.subTest(name=name):
                self.assertEqual(getattr(errors, name).__bases__, (errors.BraceError,))
                self.assertEqual(getattr(errors, name).__name__, name)

    def test_no_refusal_stands_under_another(self):
        for one in NAMES:
            for other in NAMES:
                with self.subTest(one=one, other=other):
                    self.assertEqual(issubclass(getattr(errors, one), getattr(errors, other)), one == other)


if __name__ == "__main__":
    unittest.main()
