import unittest

from piecefacts.kinds import is_between, is_column, is_number, is_value, number_of
from tests.any_values import ANY_VALUES


class KindsTest(unittest.TestCase):
    def test_integers_are_not_bools(self):
        numbers = [value for value in ANY_VALUES if is_number(value)]
        self.assertEqual(numbers, [0, 1, -1, 5, 9999, -9999, 10000, 10 ** 9, -(10 ** 30), 10 ** 6000])
        self.assertFalse([value for value in numbers if isinstance(value, bool)])

    def test_integers_within_bounds(self):
        self.assertEqual([value for value in ANY_VALUES if is_between(value, 0, 5)], [0, 1, 5])
        self.assertEqual([is_between(value, -2, 3) for value in (-3, -2, 0, 3, 4, True, None)],
                         [False, True, True, True, False, False, False])

    def test_values(self):
        values = [value for value in ANY_VALUES if is_value(value)]
        self.assertEqual(values, [0, 1, -1, 5, 9999, -9999, None])
        self.assertFalse([value for value in values if isinstance(value, bool)])

    def test_columns(self):
        self.assertEqual([value for value in ANY_VALUES if is_column(value)], ["a", "abcdefgh"])

    def test_numbers_in_strings(self):
        for number in (0, 1, -1, 10, -10, 9999, -9999, 123456789, 999999999, -999999999):
            self.assertEqual(number_of(str(number)), number)

    def test_forms_of_numbers_are_exact(self):
        for word in ("", "-", "--1", "+1", "-0", "00", "01", "-01", " 1", "1 ", "1\n", "1_0", "1.0", "1e3", "0x1", "a",
                     "1000000000", "-1000000000", "0000000001", "9" * 5000, "-" + "9" * 5000, "0" * 5000,
                     "\u0663", "\uff11", "\u00b2", "\u22121", "1-", "-1-", "None", "True"):
            self.assertIsNone(number_of(word), word)


if __name__ == "__main__":
    unittest.main()
