"""Point 2: the refusals."""

import unittest

from eitherboth import errors

NAMES = ("NoFull", "NoLetter", "NoRoom", "NoEnd", "NoText", "NoRow", "NoName")


class RefusalsTest(unittest.TestCase):
    def test_base_stands_straight_under_value_error(self):
        self.assertEqual(errors.WordError.__bases__, (ValueError,))

    def test_each_stands_straight_under_the_base(self):
        for name in NAMES:
            with self.subTest(name):
                self.assertEqual(getattr(errors, name).__bases__, (errors.WordError,))

    def test_none_stands_under_another(self):
        for name in NAMES:
            for other in NAMES:
                with self.subTest(name=name, other=other):
                    under = issubclass(getattr(errors, name), getattr(errors, other))
                    self.assertEqual(under, name == other)

    def test_each_is_caught_as_itself_as_base_and_as_value_error(self):
        for name in NAMES:
            refusal = getattr(errors, name)
            for caught in (refusal, errors.WordError, ValueError):
                with self.subTest(name=name, caught=caught):
                    with self.assertRaises(caught):
                        raise refusal("so")

    def test_names_are_their_own(self):
        for name in NAMES + ("WordError",):
            self.assertEqual(getattr(errors, name).__name__, name)


if __name__ == "__main__":
    unittest.main()
