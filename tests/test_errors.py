"""Point 4 and steermeans/errors.py."""

import unittest

from steermeans import errors
from tests.helper import Bare

GIVEN = ["InvalidFraction", "InvalidNumber", "InvalidPair", "InvalidTable", "InvalidGame", "InvalidSide",
         "InvalidField", "InvalidPlan"]
INDEX = ["InvalidMix", "InvalidPlays", "InvalidColumns", "InvalidWeights", "InvalidShares", "InvalidRounds",
         "InvalidDays"]
NONE = ["EmptyField", "NotLed", "UnlikeTables"]

WHATEVER = [None, True, False, 0, 3, -1, 10 ** 500, "", "text", b"bytes", (), (1, 2), [1], {"a": 1}, {1, 2}, Bare(),
            Bare, ((1, 2), ((1,), [2]))]


class ErrorsTest(unittest.TestCase):
    def check_attribute(self, names, attribute):
        for name in names:
            made = getattr(errors, name)
            for value in WHATEVER:
                with self.subTest(name=name, value=value):
                    self.assertIs(getattr(made(value), attribute), value)
                    self.assertIs(getattr(made(**{attribute: value}), attribute), value)

    def test_given_is_kept_by_position_and_by_name(self):
        self.check_attribute(GIVEN, "given")

    def test_index_is_kept_by_position_and_by_name(self):
        self.check_attribute(INDEX, "index")

    def test_the_attribute_has_to_be_passed(self):
        for name in GIVEN + INDEX:
            with self.assertRaises(TypeError):
                getattr(errors, name)()

    def test_the_attribute_is_the_only_one(self):
        for name in GIVEN:
            self.assertEqual(vars(getattr(errors, name)(3)), {"given": 3})
        for name in INDEX:
            self.assertEqual(vars(getattr(errors, name)(3)), {"index": 3})

    def test_the_classes_without_attributes(self):
        for name in NONE + ["MeanError"]:
            made = getattr(errors, name)()
            self.assertEqual(vars(made), {})
            self.assertFalse(hasattr(made, "given"))
            self.assertFalse(hasattr(made, "index"))

    def test_two_errors_of_one_class_side_by_side(self):
        for name in GIVEN:
            one, two = getattr(errors, name)(1), getattr(errors, name)(given=2)
            self.assertEqual((one.given, two.given), (1, 2))
        for name in INDEX:
            one, two = getattr(errors, name)(1), getattr(errors, name)(index=None)
            self.assertEqual((one.index, two.index), (1, None))

    def test_each_class_stands_under_its_own_base_alone(self):
        self.assertEqual(errors.MeanError.__bases__, (ValueError,))
        for name in GIVEN + INDEX + NONE:
            made = getattr(errors, name)
            self.assertEqual(made.__bases__, (errors.MeanError,), name)
            self.assertEqual(made.__mro__,
                             (made, errors.MeanError, ValueError, Exception, BaseException, object), name)

    def test_an_error_is_caught_as_its_class_its_base_and_value_error_and_no_other(self):
        others = [getattr(errors, name) for name in GIVEN + INDEX + NONE]
        for name in GIVEN + INDEX + NONE:
            made = getattr(errors, name)
            raised = made() if name in NONE else made(7)
            for base in (made, errors.MeanError, ValueError):
                with self.assertRaises(base):
                    raise raised
            self.assertEqual([other for other in others if isinstance(raised, other)], [made])
            self.assertNotIsInstance(raised, (TypeError, LookupError, ArithmeticError, RuntimeError))

    def test_each_class_is_defined_in_its_file(self):
        for name in GIVEN + INDEX + NONE + ["MeanError"]:
            self.assertEqual(getattr(errors, name).__module__, "steermeans.errors")
        for name in GIVEN + INDEX:
            self.assertIn("__init__", vars(getattr(errors, name)))


if __name__ == "__main__":
    unittest.main()
