"""Points 29 to 32: logs, merged, and the book that they make; point 2 for what is handed in and told."""

import itertools
import random
import unittest

from dosehouse.errors import HouseError, Torn
from dosehouse.faults import faults
from dosehouse.logs import alarms, book_of, merged

WORLD = (
    (("ann", 0), ("bob", 0)),
    (("milk", (5,), (("flat", 24, 50), ("kilo", 24, 1, 1)), 0),),
    (),
    (
        ("a", 0, 0, ("up", 1, 0, 40), ("asked", 5), ()),
        ("b", 0, 0, ("up", 1, 0, 40), ("due", 10, 24, 2, 2, 2), ()),
        ("c", 1, 0, ("up", 1, 0, 40), ("asked", 0), ()),
    ),
)


def give(mark, order, hour, amount):
    return (mark, ("give", order, hour, amount))


def weigh(mark, guest, hour, weight):
    return (mark, ("weigh", guest, hour, weight))


def strike(mark, other):
    return (mark, ("strike", other))


def amend(mark, other, amount):
    return (mark, ("amend", other, amount))


A1, A2, A3, A9, A10, A11 = [("a", number) for number in (1, 2, 3, 9, 10, 11)]
B1, B2, B3 = [("b", number) for number in (1, 2, 3)]
AB1 = ("ab", 1)


class Merged(unittest.TestCase):

    def check(self, log, other, told):
        with self.subTest(log=log, other=other):
            handed, second = list(log), list(other)
            answer = merged(handed, second)
            self.assertEqual(answer, told)
            self.assertIs(type(answer), list)
            for entry in answer:
                self.assertIs(type(entry), tuple)
            self.assertEqual((handed, second), (log, other))

    def check_torn(self, log, other, mark):
        for one, two in ((log, other), (other, log), (log[::-1], other[::-1])):
            with self.subTest(one=one, two=two):
                handed, second = list(one), list(two)
                with self.assertRaises(Torn) as caught:
                    merged(handed, second)
                self.assertEqual(caught.exception.mark, mark)
                self.assertIs(type(caught.exception.mark), tuple)
                self.assertIsInstance(caught.exception, HouseError)
                self.assertEqual((handed, second), (one, two))

    def test_empty_logs(self):
        self.check([], [], [])
        self.check([give(A1, 0, 5, 10)], [], [give(A1, 0, 5, 10)])
        self.check([], [give(A1, 0, 5, 10)], [give(A1, 0, 5, 10)])

    def test_sorted_by_their_marks(self):
        one, two, three = give(A1, 0, 9, 10), weigh(A2, 1, 5, 70), strike(B1, A1)
        for rows in itertools.permutations((one, two, three)):
            for cut in range(4):
                self.check(list(rows[:cut]), list(rows[cut:]), [one, two, three])

    def test_numbers_past_nine_go_as_numbers(self):
        rows = [give(A1, 0, 9, 1), give(A2, 0, 8, 1), give(A9, 0, 7, 1), give(A10, 0, 6, 1), give(A11, 0, 5, 1),
                give(("a", 100), 0, 4, 1), give(("a", 10 ** 30), 0, 3, 1)]
        self.check(rows[::-1], [], rows)
        self.check(rows[::2], rows[1::2], rows)

    def test_hands_of_which_one_begins_like_another(self):
        rows = [give(("a", 50), 0, 9, 1), give(("ab", 2), 0, 8, 1), give(("ab", 10), 0, 8, 2),
                give(("abc", 1), 0, 7, 1), give(("b", 1), 0, 6, 1)]
        self.check(rows[::-1], [], rows)
        self.check(rows[1::2], rows[::2], rows)

    def test_entries_doubled(self):
        one, two = give(A1, 0, 9, 10), amend(A2, A1, 5)
        self.check([one, one, two, one], [], [one, two])
        self.check([one, two], [two, one], [one, two])
        self.check([two, two], [one, two], [one, two])

    def test_torn_across_both(self):
        self.check_torn([give(A1, 0, 9, 10)], [give(A1, 0, 9, 15)], A1)
        self.check_torn([give(A1, 0, 9, 10)], [give(A1, 0, 8, 10)], A1)
        self.check_torn([give(A1, 0, 9, 10)], [give(A1, 1, 9, 10)], A1)
        self.check_torn([give(A1, 0, 9, 10)], [weigh(A1, 0, 9, 10)], A1)
        self.check_torn([strike(A1, B1)], [strike(A1, B2)], A1)
        self.check_torn([strike(A1, B1)], [amend(A1, B1, 5)], A1)
        self.check_torn([amend(A1, B1, 6)], [amend(A1, B1, 5)], A1)

    def test_torn_within_one(self):
        self.check_torn([give(A1, 0, 9, 10), give(A1, 0, 9, 15)], [], A1)
        self.check_torn([give(A1, 0, 9, 10), give(B1, 0, 7, 10), strike(A1, B1)], [give(B1, 0, 7, 10)], A1)
        self.check_torn([give(A1, 0, 9, 10), give(A1, 0, 9, 10), give(A1, 0, 9, 15)], [], A1)

    def test_torn_at_the_least_mark(self):
        self.check_torn([give(A10, 0, 9, 1), give(A2, 0, 9, 1)], [give(A10, 0, 9, 2), give(A2, 0, 9, 2)], A2)
        self.check_torn([give(A1, 0, 9, 1), give(B1, 0, 9, 1), give(AB1, 0, 9, 1)],
                        [give(A1, 0, 9, 1), give(B1, 0, 9, 2), give(AB1, 0, 9, 2)], AB1)
        self.check_torn([give(B1, 0, 9, 1), give(B1, 0, 9, 2)], [give(A9, 0, 9, 1), give(A9, 0, 9, 2)], A9)
        self.check_torn([give(B1, 0, 9, 1), give(A3, 0, 9, 2)], [give(A3, 0, 9, 1), give(B1, 0, 9, 2)], A3)

    def test_a_told_list_is_the_asker_s_own(self):
        one, two = [give(A1, 0, 9, 10)], [give(A2, 0, 5, 10)]
        told = merged(one, two)
        told.clear()
        self.check(one, two, one + two)
        told = merged(one, [])
        told.append(two[0])
        self.assertEqual(len(one), 1)


class BookOf(unittest.TestCase):

    def check(self, log, weights, givings):
        """The book of the log, and of it turned round, doubled and shuffled."""
        chance = random.Random(31)
        told = (tuple(weights), tuple(givings))
        for rows in (log, log[::-1], log + log, chance.sample(log, len(log)), chance.sample(log + log, 2 * len(log))):
            with self.subTest(rows=rows):
                handed = list(rows)
                book = book_of(handed)
                self.assertEqual(book, told)
                self.assertIs(type(book), tuple)
                for part in book:
                    self.assertIs(type(part), tuple)
                    for row in part:
                        self.assertIs(type(row), tuple)
                self.assertEqual(handed, rows)
        self.assertEqual(book_of(merged(log, log)), told)

    def test_the_empty_log(self):
        self.check([], [], [])

    def test_givings_and_weighings(self):
        self.check([give(A1, 1, 5, 10), give(A2, 0, 9, 5), weigh(B1, 1, 3, 70), weigh(B2, 0, 20, 60),
                    weigh(B3, 0, 3, 50)],
                   [(0, 3, 50), (0, 20, 60), (1, 3, 70)], [(0, 9, 5), (1, 5, 10)])

    def test_a_giving_struck(self):
        self.check([give(A1, 0, 5, 10), give(A2, 0, 6, 20), strike(B1, A1)], [], [(0, 6, 20)])
        self.check([give(B1, 0, 5, 10), strike(A1, B1)], [], [])
        self.check([give(A1, 0, 5, 10), strike(B1, A1), strike(B2, A1)], [], [])

    def test_a_weighing_struck(self):
        self.check([weigh(A1, 0, 5, 10), weigh(A2, 0, 6, 20), strike(B1, A1)], [(0, 6, 20)], [])
        self.check([weigh(A1, 0, 5, 10), weigh(A2, 0, 5, 20), strike(B1, A2)], [(0, 5, 10)], [])

    def test_a_strike_is_never_struck(self):
        self.check([give(A1, 0, 5, 10), strike(A2, A1), strike(A3, A2)], [], [])
        self.check([give(A1, 0, 5, 10), strike(A2, A1), strike(A2, A1), strike(B1, A2), strike(B2, B1)], [], [])
        self.check([give(A1, 0, 5, 10), strike(A2, A2)], [], [(0, 5, 10)])
        self.check([give(A1, 0, 5, 10), strike(A2, A3), strike(A3, A2)], [], [(0, 5, 10)])

    def test_strikes_and_amends_of_marks_that_none_has(self):
        self.check([give(A1, 0, 5, 10), strike(A2, A9), amend(A3, A10, 7), strike(B1, ("zzz", 1))], [], [(0, 5, 10)])
        self.check([strike(A2, A9), amend(A3, A10, 7)], [], [])

    def test_an_amend(self):
        self.check([give(A1, 0, 5, 10), amend(A2, A1, 25)], [], [(0, 5, 25)])
        self.check([give(B1, 0, 5, 10), amend(A2, B1, 25)], [], [(0, 5, 25)])
        self.check([give(A1, 0, 5, 10), amend(A2, A1, 0)], [], [(0, 5, 0)])
        self.check([give(A1, 0, 5, 10), amend(A2, A1, -3)], [], [(0, 5, -3)])

    def test_the_amend_of_the_greatest_mark(self):
        self.check([give(A1, 0, 5, 10), amend(A9, A1, 25), amend(A10, A1, 20)], [], [(0, 5, 20)])
        self.check([give(A1, 0, 5, 10), amend(B1, A1, 25), amend(AB1, A1, 20), amend(A11, A1, 15)], [], [(0, 5, 25)])

    def test_a_struck_amend(self):
        self.check([give(A1, 0, 5, 10), amend(A2, A1, 25), strike(A3, A2)], [], [(0, 5, 10)])
        self.check([give(A1, 0, 5, 10), amend(A2, A1, 25), amend(A3, A1, 30), strike(B1, A3)], [], [(0, 5, 25)])
        self.check([give(A1, 0, 5, 10), amend(A2, A1, 25), strike(A3, A2), strike(B1, A3)], [], [(0, 5, 10)])

    def test_an_amend_of_a_struck_giving(self):
        self.check([give(A1, 0, 5, 10), amend(A2, A1, 25), strike(A3, A1)], [], [])

    def test_amends_of_other_marks_than_a_giving_s(self):
        self.check([give(A1, 0, 5, 10), amend(A2, A1, 25), amend(A3, A2, 30)], [], [(0, 5, 25)])
        self.check([weigh(A1, 0, 5, 10), amend(A2, A1, 25)], [(0, 5, 10)], [])
        self.check([give(A1, 0, 5, 10), strike(A2, B3), amend(A3, A2, 30)], [], [(0, 5, 10)])
        self.check([give(A1, 0, 5, 10), amend(A2, A2, 30)], [], [(0, 5, 10)])

    def test_givings_of_one_order_and_hour_are_put_together(self):
        self.check([give(A1, 0, 5, 10), give(B1, 0, 5, 20), give(B2, 0, 6, 1), give(B3, 1, 5, 2)],
                   [], [(0, 5, 30), (0, 6, 1), (1, 5, 2)])
        self.check([give(A1, 0, 5, 10), give(B1, 0, 5, 10), give(B2, 0, 5, 10)], [], [(0, 5, 30)])
        self.check([give(A1, 0, 5, 10), give(B1, 0, 5, -10)], [], [(0, 5, 0)])

    def test_put_together_as_amended_and_without_what_is_struck(self):
        self.check([give(A1, 0, 5, 10), give(B1, 0, 5, 20), amend(B2, A1, 7)], [], [(0, 5, 27)])
        self.check([give(A1, 0, 5, 10), give(B1, 0, 5, 20), amend(B2, A1, 7), strike(B3, B1)], [], [(0, 5, 7)])
        self.check([give(A1, 0, 5, 10), give(B1, 0, 5, 20), strike(A2, A1), strike(B3, B1)], [], [])

    def test_sums_as_great_as_they_come(self):
        log = [give(("a", number), 0, 5, 10 ** 9) for number in range(1, 101)]
        self.check(log, [], [(0, 5, 10 ** 11)])

    def test_of_weighings_of_one_guest_and_hour_the_greatest_mark_counts(self):
        self.check([weigh(A9, 0, 5, 70), weigh(A10, 0, 5, 60)], [(0, 5, 60)], [])
        self.check([weigh(B1, 0, 5, 70), weigh(AB1, 0, 5, 60), weigh(A11, 0, 5, 50)], [(0, 5, 70)], [])
        self.check([weigh(A1, 0, 5, 70), weigh(A2, 1, 5, 60), weigh(A3, 0, 6, 50)],
                   [(0, 5, 70), (0, 6, 50), (1, 5, 60)], [])

    def test_rows_are_sorted_as_numbers(self):
        log = [give(("a", 1 + turn), order, hour, 1) for turn, (order, hour) in
               enumerate(itertools.product((11, 2, 10), (100, 9, 10)))]
        self.check(log, [], [(order, hour, 1) for order in (2, 10, 11) for hour in (9, 10, 100)])

    def test_200_entries(self):
        log = [give(("a", 1 + turn), 0, turn, 5) for turn in range(100)]
        log += [amend(("b", 1 + turn), ("a", 1 + turn), 10) for turn in range(50)]
        log += [strike(("c", 1 + turn), ("a", 26 + turn)) for turn in range(50)]
        self.check(log, [], [(0, turn, 10) for turn in range(25)] + [(0, turn, 5) for turn in range(75, 100)])


def book_by_the_words(log):
    """The book of a log, entry by entry as point 31 tells it."""
    entries = set(log)
    struck = {deed[1] for mark, deed in entries if deed[0] == "strike"}
    alive = [(mark, deed) for mark, deed in entries if mark not in struck]
    givings, weighings = {}, {}
    for mark, deed in alive:
        if deed[0] == "give":
            amends = [(by, other[2]) for by, other in alive if other[0] == "amend" and other[1] == mark]
            amount = max(amends)[1] if amends else deed[3]
            givings[deed[1:3]] = givings.get(deed[1:3], 0) + amount
        if deed[0] == "weigh":
            weighings.setdefault(deed[1:3], []).append((mark, deed[3]))
    weights = [place + (max(found)[1],) for place, found in weighings.items()]
    return (tuple(sorted(weights)), tuple(sorted(place + (amount,) for place, amount in givings.items())))


def some_log(chance):
    marks = [(hand, number) for hand in ("a", "ab", "b") for number in (1, 2, 9, 10)]
    log = []
    for mark in chance.sample(marks, chance.randint(0, len(marks))):
        log.append(chance.choice((
            give(mark, chance.randrange(3), chance.choice((8, 10, 12)), chance.choice((-5, 0, 5, 10, 20, 41))),
            give(mark, chance.randrange(3), chance.choice((8, 10, 12)), chance.choice((5, 10, 20))),
            weigh(mark, chance.randrange(2), chance.choice((0, 9)), chance.choice((10, 20, 60))),
            strike(mark, chance.choice(marks)),
            amend(mark, chance.choice(marks), chance.choice((5, 15, 45))),
        )))
    return log


class AnyOrder(unittest.TestCase):

    def test_by_the_words(self):
        chance = random.Random(32)
        for turn in range(800):
            log = some_log(chance)
            told = book_by_the_words(log)
            self.assertEqual(book_of(log), told, log)
            doubled = chance.sample(log + log, 2 * len(log))
            self.assertEqual(book_of(doubled), told, doubled)
            self.assertEqual(alarms(WORLD, log), faults(WORLD, told))

    def test_merged_in_any_way(self):
        chance = random.Random(33)
        for turn in range(200):
            log = some_log(chance)
            parts = [[], [], []]
            for entry in log:
                for place in chance.sample(range(3), chance.randint(1, 3)):
                    parts[place].append(entry)
            told = sorted(log)
            for one, two, three in itertools.permutations(parts):
                left = merged(merged(one, two), three)
                self.assertEqual(left, told)
                self.assertEqual(merged(one, merged(two, three)), told)
                self.assertEqual(merged(left, left), told)
                self.assertEqual(book_of(left), book_of(log))
                self.assertEqual(book_of(one + two + three), book_of(log))


class Alarms(unittest.TestCase):

    def check(self, log, told):
        with self.subTest(log=log):
            answer = alarms(WORLD, log)
            self.assertEqual(answer, told)
            self.assertIs(type(answer), list)

    def test_none(self):
        self.check([], [])
        self.check([weigh(A1, 0, 0, 60), give(A2, 0, 8, 20), give(B1, 1, 10, 30)], [])

    def test_faults_of_the_book(self):
        self.check([give(A2, 0, 8, 20)], [("weight", 0, 8)])
        self.check([weigh(A1, 0, 0, 60), give(A2, 0, 8, 20), give(B1, 1, 10, 35)], [("cap", 0, 0, 0, 10, 55, 50)])
        self.check([weigh(A1, 0, 0, 60), give(A2, 0, 4, 42)], [("astray", 0, 4), ("most", 0, 4), ("part", 0, 4)])

    def test_givings_put_together_may_be_too_much(self):
        log = [weigh(A1, 0, 0, 60), give(A2, 0, 8, 25), give(B1, 0, 8, 20)]
        self.check(log, [("most", 0, 8)])
        self.check(log + [amend(B2, A2, 20)], [])
        self.check(log + [strike(B2, A2)], [])
        self.check(log + [strike(B2, A1)], [("most", 0, 8), ("weight", 0, 8)])

    def test_a_told_list_is_the_asker_s_own(self):
        log = [give(A2, 0, 8, 20)]
        alarms(WORLD, log).clear()
        self.check(log, [("weight", 0, 8)])


if __name__ == "__main__":
    unittest.main()
