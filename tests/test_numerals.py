import unittest

from eachsome.errors import BadText
from eachsome.numerals import read_literal, read_number

WRONG = ("", "-", "+1", "01", "00", "-0", "--1", "-01", " 1", "1 ", "1\n", "1.0", "1_0", "x", "\u0661", "\u00b2",
         "1" * 5000, "-" + "1" * 5000, "0" * 5000)


class NumeralsTest(unittest.TestCase):
    def test_numbers(self):
        for top in (0, 1, 9, 10, 60, 199, 599999):
            for number in {0, 1, 9, 10, 99, 100, top - 1, top, top + 1, 10 * top + 9}:
                if 0 <= number <= top:
                    self.assertEqual(read_number(str(number), top), number)
                else:
                    self.assertRaises(BadText, read_number, str(number), top)
            for text in WRONG + ("-1",):
                self.assertRaises(BadText, read_number, text, top)

    def test_literals(self):
        for letters in (0, 1, 9, 60):
            for literal in range(-70, 71):
                if literal and abs(literal) <= letters:
                    self.assertEqual(read_literal(str(literal), letters), literal)
                else:
                    self.assertRaises(BadText, read_literal, str(literal), letters)
            for text in WRONG:
                self.assertRaises(BadText, read_literal, text, letters)


if __name__ == "__main__":
    unittest.main()
