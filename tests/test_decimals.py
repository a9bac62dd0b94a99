"""Numbers as texts, also those that Python does not write or read at once."""

import unittest
from random import Random

from retrysafe.decimals import decimal, decimals, number_in


class TestDecimals(unittest.TestCase):
    def test_as_python_writes_them(self):
        random = Random(1)
        numbers = [0, 1, -1, 9, -10, 10 ** 59, 10 ** 60 - 1, 10 ** 60, -10 ** 60, 10 ** 120 + 5, 10 ** 180 - 1]
        numbers += [random.randint(-10 ** many, 10 ** many) for many in range(1, 400)]
        for number in numbers:
            self.assertEqual(decimal(number), str(number))
            self.assertEqual(number_in(str(number), 400), number)
        self.assertEqual((decimals(()), decimals([3]), decimals((1, -2, 0))), ("", "3", "1 -2 0"))

    def test_longer_than_python_writes(self):
        self.assertEqual(decimal(-(10 ** 9000 + 7)), "-1" + "0" * 8999 + "7")

    def test_what_is_no_number(self):
        for word in ("", "-", "--1", "-0", "+1", "01", "-01", " 1", "1 ", "1_0", "1.0", "x", "\u0661", "\u00b2", "1\n", "0x1"):
            self.assertIsNone(number_in(word, 300), word)

    def test_most_digits(self):
        for many in (1, 2, 300, 4000):
            self.assertEqual(number_in("9" * many, many), 10 ** many - 1)
            self.assertEqual(number_in("-" + "9" * many, many), 1 - 10 ** many)
            self.assertIsNone(number_in("9" * (many + 1), many))
        self.assertIsNone(number_in("9" * 10 ** 5, 4000))


if __name__ == "__main__":
    unittest.main()
