"""The classes of farorders.errors."""

import unittest

from farorders import errors

NAMES = ["NoOrder", "NoWay", "NoFit", "NoPlace", "NoNumber", "TooMany", "NoText", "NoName", "NoRow"]


class Errors(unittest.TestCase):

    def test_order_error_is_a_value_error(self):
        self.assertEqual(errors.OrderError.__bases__, (ValueError,))

    def test_each_stands_right_under_order_error(self):
        for name in NAMES:
            with self.subTest(name):
                self.assertEqual(getattr(errors, name).__bases__, (errors.OrderError,))

    def test_none_stands_under_another(self):
        kinds = [getattr(errors, name) for name in NAMES]
        for one in kinds:
            for other in kinds:
                self.assertEqual(issubclass(one, other), one is other)

    def test_each_has_its_own_name_and_can_be_raised(self):
        for name in NAMES + ["OrderError"]:
            with self.subTest(name):
                kind = getattr(errors, name)
                self.assertEqual(kind.__name__, name)
                with self.assertRaises(ValueError):
                    raise kind("why")


if __name__ == "__main__":
    unittest.main()
