"""Point 18: the bound of a cap."""

import unittest

from dosehouse.bounds import bound

GREAT = 10 ** 9
WEIGHTS = (None, 1, 70, 10 ** 6)


class Bound(unittest.TestCase):

    def check(self, cap, weight, told):
        with self.subTest(cap=cap, weight=weight):
            answer = bound(cap, weight)
            self.assertEqual(answer, told)
            self.assertIs(type(answer), type(told))

    def test_flat_is_the_top_whatever_the_weight(self):
        for weight in WEIGHTS:
            self.check(("flat", 24, 400), weight, 400)
            self.check(("flat", 400, 24), weight, 24)
            self.check(("flat", 1, GREAT), weight, GREAT)

    def test_ever_is_the_top_whatever_the_weight(self):
        for weight in WEIGHTS:
            self.check(("ever", 9000), weight, 9000)
            self.check(("ever", 1), weight, 1)

    def test_kilo_without_a_weight(self):
        self.check(("kilo", 24, 30, 10), None, None)
        self.check(("kilo", 1, 1, 1), None, None)

    def test_kilo_that_is_whole(self):
        self.check(("kilo", 24, 30, 10), 70, 210)
        self.check(("kilo", 24, 30, 10), 1, 3)
        self.check(("kilo", 7, 2, 1), 50, 100)

    def test_kilo_that_is_rounded_down(self):
        self.check(("kilo", 24, 5, 10), 71, 35)
        self.check(("kilo", 24, 1, 3), 2, 0)
        self.check(("kilo", 24, 1, 3), 3, 1)
        self.check(("kilo", 24, 2, 3), 5, 3)
        self.check(("kilo", 24, 999, 1000), 1, 0)
        self.check(("kilo", 24, 1, GREAT), 10 ** 6, 0)

    def test_kilo_as_great_as_it_comes(self):
        self.check(("kilo", GREAT, GREAT, 1), 10 ** 6, 10 ** 15)
        self.check(("kilo", GREAT, GREAT, GREAT), 10 ** 6, 10 ** 6)


if __name__ == "__main__":
    unittest.main()
