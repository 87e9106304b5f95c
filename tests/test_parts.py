"""Point 6: fractions, rounded to multiples of a part."""

import unittest
from fractions import Fraction

from dosehouse.parts import rounded

WAYS = ("down", "up", "near")

# Some forty figures each, with no common measure made on purpose.
GREAT = 1234567890123456789012345678901234567891
GREAT_BOTTOM = 9876543210987654321098765432109876543211
GREAT_PART = 5555555555666666666677777777778888888887


def by_the_words(top, bottom, part, way):
    """The multiple that the document's words pick, from all multiples around the fraction."""
    value = Fraction(top, bottom)
    middle = top // bottom // part
    multiples = [k * part for k in range(max(0, middle - 2), middle + 4)]
    if way == "down":
        return max(m for m in multiples if m <= value)
    if way == "up":
        return min(m for m in multiples if m >= value)
    return min(multiples, key=lambda m: (abs(m - value), m))


class Rounded(unittest.TestCase):

    def check(self, top, bottom, part, down, up, near):
        for way, told in zip(WAYS, (down, up, near)):
            with self.subTest(top=top, bottom=bottom, part=part, way=way):
                answer = rounded(top, bottom, part, way)
                self.assertEqual(answer, told)
                self.assertIs(type(answer), int)

    def test_a_multiple_stays(self):
        self.check(30, 1, 10, 30, 30, 30)
        self.check(60, 2, 10, 30, 30, 30)
        self.check(10, 1, 10, 10, 10, 10)

    def test_just_above_a_multiple(self):
        self.check(31, 1, 10, 30, 40, 30)
        self.check(30001, 1000, 10, 30, 40, 30)

    def test_just_below_a_multiple(self):
        self.check(39, 1, 10, 30, 40, 40)
        self.check(39999, 1000, 10, 30, 40, 40)

    def test_half_way_near_takes_the_lower(self):
        self.check(35, 1, 10, 30, 40, 30)
        self.check(25, 1, 10, 20, 30, 20)
        self.check(70, 2, 10, 30, 40, 30)
        self.check(5, 1, 10, 0, 10, 0)
        self.check(1, 2, 1, 0, 1, 0)
        self.check(3, 2, 1, 1, 2, 1)
        self.check(5, 2, 1, 2, 3, 2)
        self.check(9, 2, 3, 3, 6, 3)

    def test_just_above_and_below_the_half(self):
        self.check(36, 1, 10, 30, 40, 40)
        self.check(34, 1, 10, 30, 40, 30)
        self.check(35001, 1000, 10, 30, 40, 40)
        self.check(34999, 1000, 10, 30, 40, 30)
        self.check(10, 1, 7, 7, 14, 7)
        self.check(11, 1, 7, 7, 14, 14)
        self.check(10, 3, 3, 3, 6, 3)
        self.check(14, 3, 3, 3, 6, 6)

    def test_top_0(self):
        self.check(0, 1, 1, 0, 0, 0)
        self.check(0, 7, 10, 0, 0, 0)
        self.check(0, GREAT, GREAT_PART, 0, 0, 0)

    def test_part_1(self):
        self.check(7, 3, 1, 2, 3, 2)
        self.check(8, 3, 1, 2, 3, 3)
        self.check(9, 3, 1, 3, 3, 3)

    def test_bottom_1(self):
        self.check(17, 1, 1, 17, 17, 17)
        self.check(17, 1, 5, 15, 20, 15)
        self.check(18, 1, 5, 15, 20, 20)

    def test_part_greater_than_the_top(self):
        self.check(1, 1, 100, 0, 100, 0)
        self.check(50, 1, 100, 0, 100, 0)
        self.check(51, 1, 100, 0, 100, 100)
        self.check(99, 1, 100, 0, 100, 100)

    def test_bottom_greater_than_the_top(self):
        self.check(1, 100, 1, 0, 1, 0)
        self.check(50, 100, 1, 0, 1, 0)
        self.check(51, 100, 1, 0, 1, 1)
        self.check(99, 100, 1, 0, 1, 1)
        self.check(99, 100, 7, 0, 7, 0)

    def test_numbers_of_forty_figures(self):
        self.check(GREAT, 1, 1, GREAT, GREAT, GREAT)
        self.check(GREAT, 1, GREAT, GREAT, GREAT, GREAT)
        self.check(GREAT, GREAT_BOTTOM, 1, 0, 1, 0)
        self.check(GREAT_BOTTOM - 1, GREAT_BOTTOM, 1, 0, 1, 1)
        self.check(1, GREAT_BOTTOM, GREAT_PART, 0, GREAT_PART, 0)

    def test_edges_of_multiples_of_forty_figures(self):
        bottom = GREAT_BOTTOM
        part = GREAT_PART
        low = 123456789 * part
        high = low + part
        at = low * bottom
        self.check(at, bottom, part, low, low, low)
        self.check(at + 1, bottom, part, low, high, low)
        self.check(at - 1, bottom, part, low - part, low, low)

    def test_the_half_of_forty_figures(self):
        bottom = GREAT_BOTTOM + 1
        part = GREAT_PART
        low = 123456789 * part
        high = low + part
        half = low * bottom + bottom * part // 2
        self.check(half, bottom, part, low, high, low)
        self.check(half + 1, bottom, part, low, high, high)
        self.check(half - 1, bottom, part, low, high, low)

    def test_small_fractions_by_the_words(self):
        for top in range(0, 41):
            for bottom in range(1, 9):
                for part in range(1, 9):
                    self.check(top, bottom, part, *[by_the_words(top, bottom, part, way) for way in WAYS])

    def test_great_fractions_by_the_words(self):
        for top in (GREAT, GREAT * GREAT_BOTTOM, GREAT * GREAT_PART * GREAT_BOTTOM, GREAT ** 4 + 1):
            for bottom in (1, 2, 7, GREAT_BOTTOM, GREAT):
                for part in (1, 2, 7, GREAT_PART, GREAT):
                    self.check(top, bottom, part, *[by_the_words(top, bottom, part, way) for way in WAYS])


if __name__ == "__main__":
    unittest.main()
