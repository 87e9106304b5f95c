"""Points 14, 15 and 16: dues, their states and tapers; points 2 and 5 for what is handed in and told."""

import random
import unittest

from dosehouse.dues import astray, due_of, span, state, taper_of

GREAT = 10 ** 9


def due_order(begin, every, many, early, late, tapers=()):
    return ("noon", 0, 0, ("up", 1, 0, 1), ("due", begin, every, many, early, late), tapers)


def asked_order(begin):
    return ("noon", 0, 0, ("up", 1, 0, 1), ("asked", begin), ())


# Spans 6 to 11, 30 to 35, 54 to 59.
ORDER = due_order(8, 24, 3, 2, 3)
# Spans 5, 12, 19.
SHARP = due_order(5, 7, 3, 0, 0)
# Spans 0 to 9, 10 to 19, 20 to 29: not one hour lies between.
TIGHT = due_order(4, 10, 3, 4, 5)
MANY = due_order(100, 24, 60, 6, 6)
FAR = due_order(GREAT, GREAT, 60, GREAT - 1, 0)


class Span(unittest.TestCase):

    def check(self, order, k, told):
        with self.subTest(order=order, k=k):
            answer = span(order, k)
            self.assertEqual(answer, told)
            self.assertIs(type(answer), tuple)

    def test_each_due(self):
        self.check(ORDER, 0, (6, 11))
        self.check(ORDER, 1, (30, 35))
        self.check(ORDER, 2, (54, 59))

    def test_early_and_late_0(self):
        self.check(SHARP, 0, (5, 5))
        self.check(SHARP, 2, (19, 19))
        self.check(due_order(5, 7, 3, 2, 0), 1, (10, 12))
        self.check(due_order(5, 7, 3, 0, 2), 1, (12, 14))
        self.check(due_order(0, 1, 3, 0, 0), 0, (0, 0))

    def test_early_and_late_one_less_than_every(self):
        self.check(TIGHT, 0, (0, 9))
        self.check(TIGHT, 1, (10, 19))
        self.check(TIGHT, 2, (20, 29))

    def test_60_dues(self):
        self.check(MANY, 59, (100 + 59 * 24 - 6, 100 + 59 * 24 + 6))

    def test_hours_as_great_as_they_come(self):
        self.check(FAR, 0, (1, GREAT))
        self.check(FAR, 59, (59 * GREAT + 1, 60 * GREAT))


class DueOf(unittest.TestCase):

    def check(self, order, hour, told):
        with self.subTest(order=order, hour=hour):
            answer = due_of(order, hour)
            self.assertEqual(answer, told)
            self.assertIs(type(answer), type(told))
            self.assertIs(astray(order, hour), told is None)

    def test_the_ends_of_a_span_and_the_hours_beside_them(self):
        for hour, told in ((5, None), (6, 0), (8, 0), (11, 0), (12, None), (29, None), (30, 1), (32, 1), (35, 1),
                           (36, None), (53, None), (54, 2), (59, 2), (60, None)):
            self.check(ORDER, hour, told)

    def test_ahead_of_the_first_and_behind_the_last_span(self):
        for hour in (0, 1, 5, 60, 77, 78, 80, 83, 102, GREAT):
            self.check(ORDER, hour, None)

    def test_early_and_late_0(self):
        for hour in range(30):
            self.check(SHARP, hour, {5: 0, 12: 1, 19: 2}.get(hour))

    def test_early_and_late_one_less_than_every(self):
        for hour in range(30):
            self.check(TIGHT, hour, hour // 10)
        self.check(TIGHT, 30, None)

    def test_every_1(self):
        for hour, told in ((2, None), (3, 0), (4, 1), (5, 2), (6, None)):
            self.check(due_order(3, 1, 3, 0, 0), hour, told)

    def test_one_due(self):
        for hour, told in ((2, None), (3, 0), (6, 0), (7, None), (13, None)):
            self.check(due_order(5, 10, 1, 2, 1), hour, told)

    def test_60_dues(self):
        for k in range(60):
            hour = 100 + 24 * k
            for beside, told in ((-7, None), (-6, k), (0, k), (6, k), (7, None)):
                self.check(MANY, hour + beside, told)
        self.check(MANY, 100 + 24 * 60, None)

    def test_far_hours(self):
        self.check(FAR, 0, None)
        self.check(FAR, 1, 0)
        self.check(FAR, GREAT, 0)

    def test_each_hour_by_its_span(self):
        chance = random.Random(14)
        for turn in range(200):
            every = chance.randint(1, 9)
            early = chance.randint(0, every - 1)
            order = due_order(chance.randint(early, 20), every, chance.randint(1, 5), early,
                              chance.randint(0, every - 1 - early))
            for hour in range(80):
                within = [k for k in range(order[4][3]) if span(order, k)[0] <= hour <= span(order, k)[1]]
                self.assertLessEqual(len(within), 1)
                self.check(order, hour, within[0] if within else None)


class Asked(unittest.TestCase):

    def test_an_asked_order_has_no_due(self):
        for begin in (0, 10, GREAT):
            for hour in (0, 9, 10, 11, GREAT):
                with self.subTest(begin=begin, hour=hour):
                    self.assertIsNone(due_of(asked_order(begin), hour))

    def test_astray_ahead_of_begin_alone(self):
        for begin, hour, told in ((10, 0, True), (10, 9, True), (10, 10, False), (10, 11, False), (10, GREAT, False),
                                  (0, 0, False), (GREAT, GREAT - 1, True), (GREAT, GREAT, False)):
            with self.subTest(begin=begin, hour=hour):
                self.assertIs(astray(asked_order(begin), hour), told)


class State(unittest.TestCase):

    def check(self, order, hours, k, hour, told):
        with self.subTest(order=order, hours=hours, k=k, hour=hour):
            handed = list(hours)
            self.assertEqual(state(order, handed, k, hour), told)
            self.assertEqual(handed, hours)

    def test_none_given(self):
        for hour, told in ((0, "ahead"), (29, "ahead"), (30, "open"), (32, "open"), (35, "open"), (36, "missed"),
                           (GREAT, "missed")):
            self.check(ORDER, [], 1, hour, told)

    def test_each_due_by_its_own_span(self):
        for hour, told in ((5, "ahead ahead ahead"), (6, "open ahead ahead"), (11, "open ahead ahead"),
                           (12, "missed ahead ahead"), (30, "missed open ahead"), (54, "missed missed open"),
                           (60, "missed missed missed")):
            for k, word in enumerate(told.split(" ")):
                self.check(ORDER, [], k, hour, word)

    def test_given_whatever_hour_is_asked(self):
        for given in (30, 31, 35):
            for hour in (0, 29, 30, given - 1, given, given + 1, 35, 36, GREAT):
                self.check(ORDER, [given], 1, hour, "given")

    def test_a_giving_just_beside_the_span(self):
        for given in (29, 36):
            for hour, told in ((29, "ahead"), (30, "open"), (35, "open"), (36, "missed")):
                self.check(ORDER, [given], 1, hour, told)

    def test_givings_of_other_dues_and_in_no_span(self):
        for hours in ([6, 11, 54, 59], [0, 12, 29, 36, 53, 60, GREAT], [59, 6, 0]):
            for hour, told in ((29, "ahead"), (30, "open"), (35, "open"), (36, "missed")):
                self.check(ORDER, hours, 1, hour, told)

    def test_givings_in_any_order(self):
        for hours in ([0, 33, 58], [58, 33, 0], [33, 58, 0], [33, 33], [35, 30], [99, 98, 97, 35]):
            for hour in (0, 30, 36):
                self.check(ORDER, hours, 1, hour, "given")

    def test_a_span_of_one_hour(self):
        for hours, hour, told in (([], 11, "ahead"), ([], 12, "open"), ([], 13, "missed"), ([11], 12, "open"),
                                  ([13], 12, "open"), ([12], 11, "given"), ([12], 13, "given")):
            self.check(SHARP, hours, 1, hour, told)

    def test_spans_without_an_hour_between(self):
        self.check(TIGHT, [9], 0, 20, "given")
        self.check(TIGHT, [9], 1, 20, "missed")
        self.check(TIGHT, [10], 0, 10, "missed")
        self.check(TIGHT, [10], 1, 10, "given")

    def test_one_of_the_four_always(self):
        chance = random.Random(15)
        for turn in range(400):
            every = chance.randint(1, 9)
            early = chance.randint(0, every - 1)
            order = due_order(chance.randint(early, 20), every, chance.randint(1, 5), early,
                              chance.randint(0, every - 1 - early))
            hours = [chance.randint(0, 60) for number in range(chance.randint(0, 4))]
            k = chance.randrange(order[4][3])
            first, last = span(order, k)
            for hour in range(0, 70, 3):
                if set(hours) & set(range(first, last + 1)):
                    told = "given"
                else:
                    told = "ahead" if hour < first else "open" if hour <= last else "missed"
                self.check(order, hours, k, hour, told)


class TaperOf(unittest.TestCase):

    def check(self, tapers, told):
        order = due_order(5, 10, len(told), 0, 0, tapers)
        for k, fraction in enumerate(told):
            with self.subTest(tapers=tapers, k=k):
                answer = taper_of(order, k)
                self.assertEqual(answer, fraction)
                self.assertIs(type(answer), tuple)

    def test_no_tapers(self):
        self.check((), [(1, 1)] * 60)

    def test_ahead_at_between_and_behind(self):
        self.check(((2, 3, 4), (5, 1, 2), (6, 1, 1000)),
                   [(1, 1), (1, 1), (3, 4), (3, 4), (3, 4), (1, 2), (1, 1000), (1, 1000), (1, 1000)])

    def test_one_taper(self):
        self.check(((1, 7, 14),), [(1, 1), (7, 14), (7, 14)])
        self.check(((59, 1, 3),), [(1, 1)] * 59 + [(1, 3)])

    def test_tapers_that_grow_again(self):
        self.check(((1, 1, 10), (2, 9, 10), (4, 1, 1)), [(1, 1), (1, 10), (9, 10), (9, 10), (1, 1), (1, 1)])


if __name__ == "__main__":
    unittest.main()
