"""Point 19: books, and entries laid in and taken out; points 2 and 5 for what is handed in and told."""

import itertools
import unittest

from dosehouse.books import givings_of, with_giving, with_weight, without_giving, without_weight

EMPTY = ((), ())
WEIGHTS = ((0, 10, 500), (0, 30, 400), (2, 10, 61))
GIVINGS = ((0, 5, 100), (0, 40, 20), (1, 7, 3), (3, 5, 1))
BOOK = (WEIGHTS, GIVINGS)


class Books(unittest.TestCase):

    def check(self, book, told):
        self.assertEqual(book, told)
        self.assertIs(type(book), tuple)
        for part in book:
            self.assertIs(type(part), tuple)
            self.assertEqual(list(part), sorted(part))
            for row in part:
                self.assertIs(type(row), tuple)


class Givings(Books):

    def test_into_the_empty_book(self):
        self.check(with_giving(EMPTY, 4, 9, 7), ((), ((4, 9, 7),)))

    def test_ahead_of_between_and_behind_others(self):
        for row, place in (((0, 4, 9), 0), ((0, 6, 9), 1), ((0, 39, 1), 1), ((0, 41, 9), 2), ((1, 6, 9), 2),
                           ((1, 8, 9), 3), ((2, 0, 9), 3), ((3, 4, 9), 3), ((3, 6, 9), 4), ((11, 0, 9), 4)):
            with self.subTest(row=row):
                told = GIVINGS[:place] + (row,) + GIVINGS[place:]
                self.check(with_giving(BOOK, *row), (WEIGHTS, told))
                self.check(without_giving((WEIGHTS, told), row[0], row[1]), BOOK)

    def test_amounts_of_any_size(self):
        for amount in (0, -5, 10 ** 9, -10 ** 9, 10 ** 40):
            with self.subTest(amount=amount):
                self.check(with_giving(BOOK, 1, 6, amount), (WEIGHTS, GIVINGS[:2] + ((1, 6, amount),) + GIVINGS[2:]))

    def test_each_taken_out(self):
        for place, row in enumerate(GIVINGS):
            with self.subTest(row=row):
                told = GIVINGS[:place] + GIVINGS[place + 1:]
                self.check(without_giving(BOOK, row[0], row[1]), (WEIGHTS, told))
                self.check(with_giving((WEIGHTS, told), *row), BOOK)

    def test_the_last_one_taken_out(self):
        self.check(without_giving(((), ((4, 9, 7),)), 4, 9), EMPTY)

    def test_in_any_order(self):
        for rows in itertools.permutations(GIVINGS):
            book = (WEIGHTS, ())
            for row in rows:
                book = with_giving(book, *row)
            self.check(book, BOOK)

    def test_givings_of(self):
        for order, told in ((0, [(5, 100), (40, 20)]), (1, [(7, 3)]), (2, []), (3, [(5, 1)]), (4, [])):
            with self.subTest(order=order):
                answer = givings_of(BOOK, order)
                self.assertEqual(answer, told)
                self.assertIs(type(answer), list)
                for row in answer:
                    self.assertIs(type(row), tuple)
        self.assertEqual(givings_of(EMPTY, 0), [])

    def test_givings_of_rise_by_the_hour(self):
        book = EMPTY
        for hour in (9, 100, 20, 3, 10 ** 9, 0):
            book = with_giving(book, 5, hour, 10 ** 9 - hour)
        self.assertEqual([hour for hour, amount in givings_of(book, 5)], [0, 3, 9, 20, 100, 10 ** 9])

    def test_a_told_list_is_the_asker_s_own(self):
        told = givings_of(BOOK, 0)
        told.clear()
        self.assertEqual(givings_of(BOOK, 0), [(5, 100), (40, 20)])
        self.assertEqual(BOOK, (WEIGHTS, GIVINGS))


class Weights(Books):

    def test_into_the_empty_book(self):
        self.check(with_weight(EMPTY, 4, 9, 7), (((4, 9, 7),), ()))

    def test_ahead_of_between_and_behind_others(self):
        for row, place in (((0, 9, 9), 0), ((0, 11, 9), 1), ((0, 29, 9), 1), ((0, 31, 9), 2), ((1, 20, 9), 2),
                           ((2, 9, 9), 2), ((2, 11, 9), 3), ((5, 0, 9), 3)):
            with self.subTest(row=row):
                told = WEIGHTS[:place] + (row,) + WEIGHTS[place:]
                self.check(with_weight(BOOK, *row), (told, GIVINGS))
                self.check(without_weight((told, GIVINGS), row[0], row[1]), BOOK)

    def test_each_taken_out(self):
        for place, row in enumerate(WEIGHTS):
            with self.subTest(row=row):
                told = WEIGHTS[:place] + WEIGHTS[place + 1:]
                self.check(without_weight(BOOK, row[0], row[1]), (told, GIVINGS))
                self.check(with_weight((told, GIVINGS), *row), BOOK)

    def test_the_last_one_taken_out(self):
        self.check(without_weight((((4, 9, 7),), ()), 4, 9), EMPTY)

    def test_in_any_order(self):
        for rows in itertools.permutations(WEIGHTS):
            book = ((), GIVINGS)
            for row in rows:
                book = with_weight(book, *row)
            self.check(book, BOOK)


if __name__ == "__main__":
    unittest.main()
