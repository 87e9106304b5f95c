"""Point 17: sums of marks over stretches of hours; points 2 and 5 for what is handed in and told."""

import random
import unittest

from dosehouse.windows import sums

GREAT = 10 ** 9


def by_the_words(marks, hours):
    told = []
    for hour in sorted({mark[0] for mark in marks}):
        within = [amount for at, amount in marks if at <= hour and (hours is None or at > hour - hours)]
        told.append((hour, sum(within)))
    return told


class Sums(unittest.TestCase):

    def check(self, marks, hours, told):
        with self.subTest(marks=marks, hours=hours):
            handed = list(marks)
            answer = sums(handed, hours)
            self.assertEqual(answer, told)
            self.assertIs(type(answer), list)
            for row in answer:
                self.assertIs(type(row), tuple)
            self.assertEqual(handed, marks)

    def test_no_marks(self):
        for hours in (1, 24, GREAT, None):
            self.check([], hours, [])

    def test_one_mark(self):
        for hours in (1, 24, GREAT, None):
            self.check([(5, 7)], hours, [(5, 7)])
            self.check([(0, 0)], hours, [(0, 0)])

    def test_several_of_one_hour(self):
        self.check([(5, 1), (5, 20), (5, 300)], 1, [(5, 321)])
        self.check([(5, 1), (9, 4000), (5, 20)], 4, [(5, 21), (9, 4000)])
        self.check([(5, 1), (9, 4000), (5, 20)], 5, [(5, 21), (9, 4021)])
        self.check([(5, 7), (5, 7)], None, [(5, 14)])

    def test_just_within_and_just_outside(self):
        marks = [(10, 1), (34, 20)]
        self.check(marks, 23, [(10, 1), (34, 20)])
        self.check(marks, 24, [(10, 1), (34, 20)])
        self.check(marks, 25, [(10, 1), (34, 21)])

    def test_marks_in_any_order(self):
        told = [(1, 1), (4, 21), (6, 320), (9, 4300)]
        for marks in ([(1, 1), (4, 20), (6, 300), (9, 4000)], [(9, 4000), (6, 300), (4, 20), (1, 1)],
                      [(6, 300), (1, 1), (9, 4000), (4, 20)]):
            self.check(marks, 4, told)

    def test_hours_1(self):
        self.check([(5, 1), (6, 20), (7, 300), (7, 1)], 1, [(5, 1), (6, 20), (7, 301)])
        self.check([(0, 1), (1, 20)], 1, [(0, 1), (1, 20)])

    def test_hours_2(self):
        self.check([(5, 1), (6, 20), (7, 300)], 2, [(5, 1), (6, 21), (7, 320)])

    def test_none_goes_over_all_that_are_not_later(self):
        self.check([(GREAT, 4000), (0, 1), (7, 20), (8, 300)], None, [(0, 1), (7, 21), (8, 321), (GREAT, 4321)])

    def test_hours_as_great_as_can_be(self):
        self.check([(0, 1), (GREAT, 20)], GREAT, [(0, 1), (GREAT, 20)])
        self.check([(1, 1), (GREAT, 20)], GREAT, [(1, 1), (GREAT, 21)])
        self.check([(0, 1), (GREAT, 20)], GREAT + 1, [(0, 1), (GREAT, 21)])

    def test_amounts_below_0(self):
        self.check([(5, -3), (6, 2), (9, -1)], 3, [(5, -3), (6, -1), (9, -1)])
        self.check([(5, -3), (5, 3)], 3, [(5, 0)])
        self.check([(5, 10), (6, -10), (7, 1)], 2, [(5, 10), (6, 0), (7, -9)])

    def test_an_hour_with_a_sum_of_nought_is_told(self):
        self.check([(5, 0), (8, 0)], 2, [(5, 0), (8, 0)])

    def test_sums_as_great_as_they_come(self):
        self.check([(hour, GREAT) for hour in range(200)], None, [(hour, GREAT * (hour + 1)) for hour in range(200)])

    def test_no_stretch_has_a_greater_sum(self):
        marks = [(2, 5), (3, 1), (3, 4), (9, 2), (11, 7)]
        for hours in range(1, 12):
            greatest = max(row[1] for row in sums(marks, hours))
            for begin in range(-12, 14):
                self.assertLessEqual(sum(amount for at, amount in marks if begin <= at < begin + hours), greatest)

    def test_by_the_words(self):
        chance = random.Random(17)
        for turn in range(600):
            marks = [(chance.randint(0, 30), chance.randint(-9, 9)) for number in range(chance.randint(0, 12))]
            hours = chance.choice((None, 1, 2, 3, 5, 10, 29, 30, 31, 40))
            self.check(marks, hours, by_the_words(marks, hours))

    def test_a_told_list_is_the_asker_s_own(self):
        marks = [(9, 1), (5, 20)]
        told = sums(marks, 5)
        told[0] = None
        told.append((0, 0))
        self.check(marks, 5, [(5, 20), (9, 21)])
        marks.clear()
        self.assertEqual(told, [None, (9, 21), (0, 0)])


if __name__ == "__main__":
    unittest.main()
