"""The refusals: the interface, points 18 and 20 (their fields)."""

import unittest

from soldrises import errors

PLAIN_NAMES = [
    "NoMarket", "NoPrices", "NoDay", "NoBuyer", "NoGood", "NoStep", "NoSales", "NoRest", "NoOrder", "TooMany",
    "NotHeld", "NoGoods", "NoLength", "NoRow", "NoName",
]
ALL_NAMES = PLAIN_NAMES + ["NoWorths", "NoText"]


class ClassesTest(unittest.TestCase):
    def test_sold_error_is_a_value_error(self):
        self.assertEqual(errors.SoldError.__bases__, (ValueError,))

    def test_each_class_is_just_under_sold_error(self):
        for name in ALL_NAMES:
            self.assertEqual(getattr(errors, name).__bases__, (errors.SoldError,), name)

    def test_none_is_under_another_one(self):
        classes = [getattr(errors, name) for name in ALL_NAMES]
        for one in classes:
            self.assertTrue(issubclass(one, errors.SoldError))
            self.assertTrue(issubclass(one, ValueError))
            self.assertEqual([other for other in classes if issubclass(one, other)], [one])

    def test_there_are_no_more_than_these(self):
        told = sorted(name for name, thing in vars(errors).items() if isinstance(thing, type))
        self.assertEqual(told, sorted(ALL_NAMES + ["SoldError"]))

    def test_each_is_caught_as_sold_error_and_as_value_error(self):
        for name in ALL_NAMES:
            for caught in (errors.SoldError, ValueError):
                with self.assertRaises(caught):
                    raise getattr(errors, name)()


class FieldsTest(unittest.TestCase):
    def test_days_given(self):
        self.assertEqual(errors.NoWorths([0, 3, 6]).days, [0, 3, 6])
        self.assertEqual(errors.NoWorths([]).days, [])

    def test_days_left_out(self):
        self.assertIsNone(errors.NoWorths().days)
        self.assertIsNone(errors.NoWorths(None).days)

    def test_days_are_kept_as_a_copy(self):
        handed = [0, 3]
        error = errors.NoWorths(handed)
        handed.append(9)
        self.assertEqual(error.days, [0, 3])
        self.assertFalse(any(kept is handed for kept in error.args))
        error.days.append(12)
        self.assertEqual(handed, [0, 3, 9])
        self.assertEqual(errors.NoWorths([0, 3]).days, [0, 3])

    def test_at_given(self):
        for at in (0, 1, 11):
            self.assertEqual(errors.NoText(at).at, at)

    def test_at_left_out(self):
        self.assertIsNone(errors.NoText().at)
        self.assertIsNone(errors.NoText(None).at)

    def test_fields_when_raised(self):
        with self.assertRaises(errors.NoWorths) as caught:
            raise errors.NoWorths([2])
        self.assertEqual(caught.exception.days, [2])
        with self.assertRaises(errors.NoText) as caught:
            raise errors.NoText(4)
        self.assertEqual(caught.exception.at, 4)


if __name__ == "__main__":
    unittest.main()
