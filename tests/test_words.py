"""The names of point 11 and the numbers of point 12, of any text."""

import unittest

from dosehouse.words import is_name, number_of

SMALL = "abcdefghijklmnopqrstuvwxyz"
FIGURES = "0123456789"
SIGNS = "".join(chr(code) for code in range(32, 127))
# Letters and figures that Python's own questions take for such, and signs that stand outside the lines.
FOREIGN = ("\u00e9", "\u00df", "\u03b1", "\u0663", "\u00b2", "\uff11", "\uff41", "\u0661\u0662", "\n", "\t", "\x00")


class IsName(unittest.TestCase):

    def check(self, text, told):
        with self.subTest(text=text):
            self.assertIs(is_name(text), told)

    def test_the_empty_text(self):
        self.check("", False)

    def test_one_to_eight_letters(self):
        for many in range(1, 9):
            self.check("abcdefgh"[:many], True)
            self.check("z" * many, True)

    def test_nine_letters_and_more(self):
        self.check("abcdefghi", False)
        self.check("a" * 9, False)
        self.check("a" * 200, False)

    def test_each_sign_by_itself(self):
        for sign in SIGNS:
            self.check(sign, sign in SMALL)

    def test_each_sign_within(self):
        for sign in SIGNS:
            for text in (sign + "ab", "a" + sign + "b", "ab" + sign):
                self.check(text, sign in SMALL)

    def test_great_letters(self):
        for text in ("Ann", "aNn", "anN", "ANN"):
            self.check(text, False)

    def test_figures(self):
        for text in ("0", "12", "a1", "1a", "ann7"):
            self.check(text, False)

    def test_blanks(self):
        for text in (" ", " ann", "ann ", "an n", "  "):
            self.check(text, False)

    def test_signs_of_other_scripts_and_row_ends(self):
        for sign in FOREIGN:
            for text in (sign, "a" + sign, sign + "a", "a" + sign + "a"):
                self.check(text, False)


class NumberOf(unittest.TestCase):

    def check(self, text, told):
        with self.subTest(text=text):
            answer = number_of(text)
            self.assertEqual(answer, told)
            self.assertIs(type(answer), type(told))

    def test_the_empty_text(self):
        self.check("", None)

    def test_nought(self):
        self.check("0", 0)
        for text in ("00", "000", "01", "007", "0000000001", "01000000000", "0" * 200):
            self.check(text, None)

    def test_ordinary_numbers(self):
        for number in list(range(1, 120)) + [999, 1000, 65536, 123456789, 987654321]:
            self.check(str(number), number)

    def test_each_count_of_figures(self):
        for many in range(1, 10):
            self.check("9" * many, 10 ** many - 1)
            self.check("1" + "0" * (many - 1), 10 ** (many - 1))

    def test_the_greatest_and_those_above_it(self):
        self.check("999999999", 999999999)
        self.check("1000000000", 1000000000)
        for text in ("1000000001", "1000000002", "1000000010", "2000000000", "9999999999", "10000000000"):
            self.check(text, None)

    def test_two_hundred_figures(self):
        self.check("1" * 200, None)
        self.check("9" * 200, None)

    def test_signs_and_blanks(self):
        for text in ("+1", "-1", "-0", "+0", "1+", "1-", " 1", "1 ", "1 2", " ", "1_000", "_1", "1_", "1.", "1.0", ".5",
                     "1e3", "0x1", "0b1", "1,000", "1\n", "\n1", "\t1", "a", "1a", "a1", "+", "-", "_"):
            self.check(text, None)

    def test_each_sign_by_itself_and_within(self):
        for sign in SIGNS:
            self.check(sign, int(sign) if sign in FIGURES else None)
            self.check("1" + sign + "2", int("1" + sign + "2") if sign in FIGURES else None)

    def test_figures_of_other_scripts(self):
        for sign in FOREIGN:
            for text in (sign, "1" + sign, sign + "1", "1" + sign + "1"):
                self.check(text, None)


if __name__ == "__main__":
    unittest.main()
