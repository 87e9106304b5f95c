"""Point 7: the dose of a rule; point 2 for what is handed in."""

import unittest
from fractions import Fraction

from dosehouse.doses import dose

WAYS = ("down", "up", "near")
ENOUGH = 10 ** 9


def by_the_words(rule, weight, num, den, part):
    """The dose that the document's words pick, by exact fractions and a walk over the multiples."""
    way, top, per, most = rule
    value = Fraction(top * num, den) if per == 0 else Fraction(weight * top * num, per * den)
    low = 0
    while low + part <= value:
        low += part
    high = low if low == value else low + part
    nearest = low if value - low <= low + part - value else low + part
    found = {"down": low, "up": high, "near": nearest}[way]
    while found > most:
        found -= part
    return found


class Dose(unittest.TestCase):

    def check(self, rule, weight, num, den, part, told):
        with self.subTest(rule=rule, weight=weight, num=num, den=den, part=part):
            answer = dose(rule, weight, num, den, part)
            self.assertEqual(answer, told)
            self.assertIs(type(answer), int)

    def check_ways(self, top, per, most, weight, num, den, part, down, up, near):
        for way, told in zip(WAYS, (down, up, near)):
            self.check((way, top, per, most), weight, num, den, part, told)

    def test_per_0_has_no_eye_for_the_weight(self):
        for weight in (None, 1, 70, 10 ** 6):
            self.check_ways(47, 0, ENOUGH, weight, 1, 1, 10, 40, 50, 50)
            self.check_ways(43, 0, ENOUGH, weight, 1, 1, 10, 40, 50, 40)
            self.check_ways(45, 0, ENOUGH, weight, 1, 1, 10, 40, 50, 40)
            self.check_ways(40, 0, ENOUGH, weight, 1, 1, 10, 40, 40, 40)

    def test_per_above_0_goes_by_the_weight(self):
        self.check_ways(15, 10, ENOUGH, 60, 1, 1, 10, 90, 90, 90)
        self.check_ways(15, 10, ENOUGH, 61, 1, 1, 10, 90, 100, 90)
        self.check_ways(15, 10, ENOUGH, 66, 1, 1, 10, 90, 100, 100)
        self.check_ways(3, 1, ENOUGH, 7, 1, 1, 1, 21, 21, 21)

    def test_per_1_is_not_per_0(self):
        self.check_ways(5, 1, ENOUGH, 3, 1, 1, 1, 15, 15, 15)
        self.check_ways(5, 0, ENOUGH, 3, 1, 1, 1, 5, 5, 5)

    def test_nothing_is_rounded_ahead_of_the_end(self):
        self.check_ways(1, 3, ENOUGH, 10, 3, 10, 1, 1, 1, 1)
        self.check_ways(1, 2, ENOUGH, 1, 1, 2, 1, 0, 1, 0)
        self.check_ways(5, 2, ENOUGH, 1, 2, 1, 1, 5, 5, 5)

    def test_fraction_below_1(self):
        self.check_ways(100, 0, ENOUGH, None, 1, 4, 10, 20, 30, 20)
        self.check_ways(100, 0, ENOUGH, None, 1, 3, 10, 30, 40, 30)
        self.check_ways(100, 10, ENOUGH, 33, 1, 2, 10, 160, 170, 160)

    def test_fraction_at_1(self):
        self.check_ways(100, 0, ENOUGH, None, 7, 7, 10, 100, 100, 100)
        self.check_ways(100, 10, ENOUGH, 33, 7, 7, 100, 300, 400, 300)

    def test_fraction_above_1(self):
        self.check_ways(100, 0, ENOUGH, None, 4, 3, 10, 130, 140, 130)
        self.check_ways(100, 0, ENOUGH, None, 5, 3, 10, 160, 170, 170)
        self.check_ways(100, 10, ENOUGH, 33, 3, 2, 10, 490, 500, 490)

    def test_around_a_most_that_is_a_multiple(self):
        self.check_ways(89, 0, 100, None, 1, 1, 10, 80, 90, 90)
        self.check_ways(99, 0, 100, None, 1, 1, 10, 90, 100, 100)
        self.check_ways(100, 0, 100, None, 1, 1, 10, 100, 100, 100)
        self.check_ways(101, 0, 100, None, 1, 1, 10, 100, 100, 100)
        self.check_ways(109, 0, 100, None, 1, 1, 10, 100, 100, 100)
        self.check_ways(111, 0, 100, None, 1, 1, 10, 100, 100, 100)

    def test_around_a_most_that_is_a_multiple_by_weight(self):
        self.check_ways(1, 10, 100, 999, 1, 1, 10, 90, 100, 100)
        self.check_ways(1, 10, 100, 1000, 1, 1, 10, 100, 100, 100)
        self.check_ways(1, 10, 100, 1001, 1, 1, 10, 100, 100, 100)
        self.check_ways(1, 10, 100, 5000, 1, 1, 10, 100, 100, 100)

    def test_around_a_most_that_is_no_multiple(self):
        self.check_ways(89, 0, 95, None, 1, 1, 10, 80, 90, 90)
        self.check_ways(90, 0, 95, None, 1, 1, 10, 90, 90, 90)
        self.check_ways(91, 0, 95, None, 1, 1, 10, 90, 90, 90)
        self.check_ways(95, 0, 95, None, 1, 1, 10, 90, 90, 90)
        self.check_ways(96, 0, 95, None, 1, 1, 10, 90, 90, 90)
        self.check_ways(200, 0, 95, None, 1, 1, 10, 90, 90, 90)
        self.check_ways(200, 0, 99, None, 1, 1, 10, 90, 90, 90)
        self.check_ways(200, 0, 91, None, 1, 1, 10, 90, 90, 90)

    def test_it_is_the_multiple_that_is_held_against_most_not_the_fraction(self):
        self.check(("down", 109, 0, 100), None, 1, 1, 10, 100)
        self.check(("near", 104, 0, 100), None, 1, 1, 10, 100)
        self.check(("up", 91, 0, 99), None, 1, 1, 10, 90)

    def test_part_as_great_as_most(self):
        self.check_ways(1, 0, 50, None, 1, 1, 50, 0, 50, 0)
        self.check_ways(25, 0, 50, None, 1, 1, 50, 0, 50, 0)
        self.check_ways(26, 0, 50, None, 1, 1, 50, 0, 50, 50)
        self.check_ways(50, 0, 50, None, 1, 1, 50, 50, 50, 50)
        self.check_ways(51, 0, 50, None, 1, 1, 50, 50, 50, 50)
        self.check_ways(500, 0, 50, None, 1, 1, 50, 50, 50, 50)
        self.check_ways(1, 0, 1, None, 1, 1, 1, 1, 1, 1)

    def test_dose_may_be_0(self):
        self.check_ways(1, 10 ** 9, ENOUGH, 1, 1, 1, 1, 0, 1, 0)
        self.check_ways(1, 0, ENOUGH, None, 1, 1000, 10, 0, 10, 0)

    def test_numbers_as_great_as_the_point_names(self):
        great = 10 ** 9
        self.check_ways(great, great, great, 10 ** 6, 1, 1, 1, 10 ** 6, 10 ** 6, 10 ** 6)
        self.check_ways(great, 1, great, 10 ** 6, 1, 1, 1, great, great, great)
        self.check_ways(great, 1, 10 ** 15 - 1, 10 ** 6, 1, 1, 10, 10 ** 15 - 10, 10 ** 15 - 10, 10 ** 15 - 10)
        self.check_ways(great, 1, 10 ** 16, 10 ** 6, 1, 1, 1, 10 ** 15, 10 ** 15, 10 ** 15)
        self.check_ways(great, 0, great, None, great, great, great, great, great, great)
        self.check_ways(great, 0, great, None, great - 1, great, great, 0, great, great)
        self.check_ways(1, great, great, 1, 1, great, 1, 0, 1, 0)
        self.check_ways(great - 1, great, great, 10 ** 6, 1, 1, 1, 999999, 10 ** 6, 10 ** 6)

    def test_fractions_of_forty_figures(self):
        great = 10 ** 40
        self.check_ways(7, 0, ENOUGH, None, great + 1, great, 1, 7, 8, 7)
        self.check_ways(7, 0, ENOUGH, None, great - 1, great, 1, 6, 7, 7)
        self.check_ways(7, 2, ENOUGH, 3, great, great, 1, 10, 11, 10)
        self.check_ways(7, 2, ENOUGH, 3, great + 1, great, 1, 10, 11, 11)
        self.check_ways(7, 2, ENOUGH, 3, great, 1, 10, ENOUGH, ENOUGH, ENOUGH)

    def test_small_rules_by_the_words(self):
        for way in WAYS:
            for top in (1, 2, 5, 9):
                for per in (0, 1, 2, 3):
                    for num, den in ((1, 1), (1, 2), (2, 3), (3, 2), (7, 5)):
                        for part in (1, 2, 3, 5):
                            for most in range(part, 3 * part + 2):
                                for weight in (1, 3, 4):
                                    rule = (way, top, per, most)
                                    told = by_the_words(rule, weight, num, den, part)
                                    self.check(rule, weight, num, den, part, told)

    def test_same_question_same_answer(self):
        rule = ("near", 15, 10, 95)
        answers = [dose(rule, 61, 2, 3, 10) for turn in range(3)]
        self.assertEqual(answers, [60, 60, 60])
        self.assertEqual(rule, ("near", 15, 10, 95))


if __name__ == "__main__":
    unittest.main()
