"""Point 8: the weight of a guest at an hour; point 2 for what is handed in."""

import unittest

from dosehouse.weights import weight_at

# Three guests, two of them with weighings at the same hours.
WEIGHTS = (
    (0, 10, 500),
    (0, 20, 400),
    (0, 30, 700),
    (2, 10, 61),
    (2, 20, 62),
    (2, 25, 60),
    (3, 0, 1000000),
)


class WeightAt(unittest.TestCase):

    def check(self, weights, guest, hour, told):
        with self.subTest(weights=weights, guest=guest, hour=hour):
            answer = weight_at(weights, guest, hour)
            self.assertEqual(answer, told)
            self.assertIs(type(answer), type(told))

    def test_no_weighings(self):
        for hour in (0, 1, 10 ** 9):
            self.check((), 0, hour, None)

    def test_none_of_this_guest(self):
        for guest in (1, 4):
            for hour in (0, 9, 10, 20, 30, 10 ** 9):
                self.check(WEIGHTS, guest, hour, None)

    def test_just_ahead_of_at_and_just_behind_a_weighing(self):
        self.check(((0, 10, 500),), 0, 9, None)
        self.check(((0, 10, 500),), 0, 10, 500)
        self.check(((0, 10, 500),), 0, 11, 500)
        self.check(((0, 10, 500),), 0, 10 ** 9, 500)

    def test_the_latest_that_is_not_later(self):
        for hour, told in ((0, None), (9, None), (10, 500), (11, 500), (19, 500), (20, 400), (21, 400), (29, 400),
                           (30, 700), (31, 700), (10 ** 9, 700)):
            self.check(WEIGHTS, 0, hour, told)

    def test_guests_with_weighings_at_the_same_hours_are_kept_apart(self):
        for hour, told in ((9, None), (10, 61), (19, 61), (20, 62), (24, 62), (25, 60), (26, 60), (30, 60)):
            self.check(WEIGHTS, 2, hour, told)

    def test_the_first_hour_and_the_last_one(self):
        self.check(WEIGHTS, 3, 0, 1000000)
        self.check(((5, 10 ** 9, 1),), 5, 10 ** 9 - 1, None)
        self.check(((5, 10 ** 9, 1),), 5, 10 ** 9, 1)

    def test_two_hundred_weighings(self):
        weights = tuple((guest, 10 * turn, 1 + 50 * guest + turn) for guest in range(4) for turn in range(50))
        for guest in range(4):
            for hour in range(0, 510, 3):
                self.check(weights, guest, hour, 1 + 50 * guest + min(hour // 10, 49))

    def test_what_is_handed_in_stays(self):
        weights = tuple(WEIGHTS)
        self.assertEqual([weight_at(weights, 0, 25) for turn in range(3)], [400, 400, 400])
        self.assertEqual(weights, WEIGHTS)


if __name__ == "__main__":
    unittest.main()
