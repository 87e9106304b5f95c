"""Points 9 and 10: prices and the fewest pieces; point 2 for what is told."""

import unittest
from itertools import combinations

from dosehouse.errors import HouseError, NoPieces
from dosehouse.pieces import fewest, prices

EIGHT = (1, 5, 10, 50, 100, 500, 1000, 2000)


def by_the_words(sizes, amount):
    """The least number of pieces for each number up to the amount, by laying piece upon piece."""
    told = [None] * (amount + 1)
    reached = {0}
    many = 0
    while reached:
        for total in reached:
            told[total] = many
        reached = {total + size for total in reached for size in sizes if total + size <= amount}
        reached = {total for total in reached if told[total] is None}
        many += 1
    return told


class Prices(unittest.TestCase):

    def check(self, sizes, amount, told):
        with self.subTest(sizes=sizes, amount=amount):
            answer = prices(sizes, amount)
            self.assertEqual(answer, told)
            self.assertIs(type(answer), list)
            for price in answer:
                self.assertIn(type(price), (int, type(None)))

    def test_amount_0(self):
        for sizes in ((1,), (7,), (3, 5), EIGHT):
            self.check(sizes, 0, [0])

    def test_one_size(self):
        self.check((1,), 5, [0, 1, 2, 3, 4, 5])
        self.check((3,), 7, [0, None, None, 1, None, None, 2, None])
        self.check((5,), 4, [0, None, None, None, None])
        self.check((5,), 5, [0, None, None, None, None, 1])

    def test_sizes_without_1(self):
        self.check((2, 5), 8, [0, None, 1, None, 2, 1, 3, 2, 4])
        self.check((3, 5), 8, [0, None, None, 1, None, 1, 2, None, 2])
        self.check((4, 6), 13, [0, None, None, None, 1, None, 1, None, 2, None, 2, None, 2, None])

    def test_the_greatest_size_first_is_not_the_fewest(self):
        self.check((1, 3, 4), 6, [0, 1, 2, 1, 1, 2, 2])
        self.check((1, 5, 6, 9), 11, [0, 1, 2, 3, 4, 1, 1, 2, 3, 1, 2, 2])

    def test_the_greatest_size_first_would_come_to_nothing(self):
        self.check((4, 5), 8, [0, None, None, None, 1, 1, None, None, 2])

    def test_sizes_above_the_amount(self):
        self.check((1, 2000), 3, [0, 1, 2, 3])
        self.check((5, 6), 3, [0, None, None, None])

    def test_eight_sizes_up_to_2000(self):
        answer = prices(EIGHT, 2000)
        self.assertEqual(len(answer), 2001)
        self.assertEqual(answer[2000], 1)
        self.assertEqual(answer[1999], 1 + 1 + 4 + 1 + 4 + 1 + 4)
        self.assertEqual(answer, by_the_words(EIGHT, 2000))

    def test_size_2000_and_amount_2000(self):
        self.check((2000,), 2000, [0] + [None] * 1999 + [1])
        self.check((1999, 2000), 2000, [0] + [None] * 1998 + [1, 1])
        self.check((1,), 2000, list(range(2001)))

    def test_small_sizes_by_the_words(self):
        for many in (1, 2, 3):
            for sizes in combinations(range(1, 10), many):
                for amount in (0, 1, 2, 7, 30):
                    self.check(sizes, amount, by_the_words(sizes, amount))

    def test_a_told_list_is_the_asker_s_own(self):
        told = prices((3, 5), 8)
        told[0] = 99
        told.append(7)
        self.check((3, 5), 8, [0, None, None, 1, None, 1, 2, None, 2])
        self.assertEqual(len(told), 10)


class Fewest(unittest.TestCase):

    def check(self, sizes, amount, many):
        with self.subTest(sizes=sizes, amount=amount):
            answer = fewest(sizes, amount)
            self.assertIs(type(answer), tuple)
            self.assertEqual(len(answer), len(sizes))
            for count in answer:
                self.assertIs(type(count), int)
                self.assertGreaterEqual(count, 0)
            self.assertEqual(sum(count * size for count, size in zip(answer, sizes)), amount)
            self.assertEqual(sum(answer), many)

    def check_refused(self, sizes, amount):
        with self.subTest(sizes=sizes, amount=amount):
            with self.assertRaises(NoPieces) as caught:
                fewest(sizes, amount)
            self.assertEqual(caught.exception.amount, amount)
            self.assertIsInstance(caught.exception, HouseError)

    def test_amount_0(self):
        self.assertEqual(fewest((1,), 0), (0,))
        self.assertEqual(fewest((7,), 0), (0,))
        self.assertEqual(fewest((3, 5, 9), 0), (0, 0, 0))
        self.assertEqual(fewest(EIGHT, 0), (0,) * 8)

    def test_one_size(self):
        self.assertEqual(fewest((1,), 2000), (2000,))
        self.assertEqual(fewest((3,), 9), (3,))
        self.assertEqual(fewest((2000,), 2000), (1,))

    def test_the_greatest_size_first_is_not_the_fewest(self):
        self.assertEqual(fewest((1, 3, 4), 6), (0, 2, 0))
        self.assertEqual(fewest((1, 5, 6, 9), 11), (0, 1, 1, 0))
        self.assertEqual(fewest((1, 10, 25), 30), (0, 3, 0))

    def test_the_greatest_size_first_would_come_to_nothing(self):
        self.assertEqual(fewest((4, 5), 8), (2, 0))
        self.assertEqual(fewest((6, 9, 20), 24), (1, 2, 0))

    def test_several_of_several_sizes(self):
        self.assertEqual(fewest((1, 5, 10), 38), (3, 1, 3))
        self.check((2, 4, 6), 8, 2)

    def test_eight_sizes(self):
        self.assertEqual(fewest(EIGHT, 1999), (4, 1, 4, 1, 4, 1, 1, 0))
        self.assertEqual(fewest(EIGHT, 2000), (0, 0, 0, 0, 0, 0, 0, 1))
        self.check((3, 7, 11, 19, 101, 503, 997, 2000), 2000, 1)
        self.check((1, 7, 11, 19, 101, 503, 997, 1999), 2000, 2)

    def test_refused_where_none_come_to_it(self):
        self.check_refused((3,), 7)
        self.check_refused((2,), 1)
        self.check_refused((3, 5), 7)
        self.check_refused((2000,), 1999)
        self.check_refused((1999,), 2000)
        self.check_refused((2, 4, 6, 8, 10, 12, 14, 16), 1999)
        self.check_refused((6, 9, 20), 43)

    def test_small_sizes_by_the_words(self):
        for many in (1, 2, 3, 4):
            for sizes in combinations(range(1, 9), many):
                told = by_the_words(sizes, 25)
                for amount in range(26):
                    if told[amount] is None:
                        self.check_refused(sizes, amount)
                    else:
                        self.check(sizes, amount, told[amount])


if __name__ == "__main__":
    unittest.main()
