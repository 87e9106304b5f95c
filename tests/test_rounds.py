"""Points 25 and 26: open and missed dues, changes and rounds; pieces of an order; point 2 for what is told."""

import random
import unittest

from dosehouse.faults import faults
from dosehouse.house import House
from dosehouse.rounds import missed_dues, next_change, open_dues, pieces_for, round_at

GREAT = 10 ** 9
EMPTY = ((), ())
GUESTS = (("ann", 0), ("bob", 0))
MILK = ("milk", (5, 10, 25), (), 0)


def due_order(name, guest, stuff, dues, rule=("up", 10, 0, 100), tapers=()):
    return (name, guest, stuff, rule, ("due",) + dues, tapers)


def asked_order(name, guest, stuff, rule=("up", 10, 0, 100)):
    return (name, guest, stuff, rule, ("asked", 0), ())


# Spans: order 0 from 6 to 11, 30 to 35, 54 to 59; order 2 at 7 and 31; order 3 from 8 to 9 and 32 to 33.
WORLD = (
    GUESTS,
    (MILK,),
    (),
    (
        due_order("a", 0, 0, (8, 24, 3, 2, 3)),
        asked_order("b", 0, 0),
        due_order("c", 1, 0, (7, 24, 2, 0, 0)),
        due_order("d", 1, 0, (8, 24, 2, 0, 1)),
    ),
)


def book_with(givings, weights=()):
    return (tuple(sorted(weights)), tuple(sorted(givings)))


def states_by_the_words(world, book, hour):
    """The state of each due at the hour, by (due's hour, order, k)."""
    told = {}
    for number, order in enumerate(world[3]):
        if order[4][0] == "due":
            begin, every, many, early, late = order[4][1:]
            for k in range(many):
                at = begin + k * every
                if [row for row in book[1] if row[0] == number and at - early <= row[1] <= at + late]:
                    word = "given"
                elif hour < at - early:
                    word = "ahead"
                else:
                    word = "open" if hour <= at + late else "missed"
                told[(at, number, k)] = word
    return told


class Dues(unittest.TestCase):

    def check_list(self, asked, world, book, hour, told):
        with self.subTest(asked=asked.__name__, book=book, hour=hour):
            answer = asked(world, book, hour)
            self.assertEqual(answer, told)
            self.assertIs(type(answer), list)
            for row in answer:
                self.assertIs(type(row), tuple)

    def check_open(self, book, hour, told):
        self.check_list(open_dues, WORLD, book, hour, told)

    def check_missed(self, book, hour, told):
        self.check_list(missed_dues, WORLD, book, hour, told)

    def check_change(self, world, book, hour, told):
        with self.subTest(book=book, hour=hour):
            self.assertEqual(next_change(world, book, hour), told)

    def test_open_at_the_ends_of_spans(self):
        self.check_open(EMPTY, 0, [])
        self.check_open(EMPTY, 5, [])
        self.check_open(EMPTY, 6, [(8, 0, 0)])
        self.check_open(EMPTY, 7, [(7, 2, 0), (8, 0, 0)])
        self.check_open(EMPTY, 8, [(8, 0, 0), (8, 3, 0)])
        self.check_open(EMPTY, 9, [(8, 0, 0), (8, 3, 0)])
        self.check_open(EMPTY, 10, [(8, 0, 0)])
        self.check_open(EMPTY, 11, [(8, 0, 0)])
        self.check_open(EMPTY, 12, [])
        self.check_open(EMPTY, 31, [(31, 2, 1), (32, 0, 1)])
        self.check_open(EMPTY, GREAT, [])

    def test_missed_at_the_ends_of_spans(self):
        self.check_missed(EMPTY, 7, [])
        self.check_missed(EMPTY, 8, [(7, 2, 0)])
        self.check_missed(EMPTY, 9, [(7, 2, 0)])
        self.check_missed(EMPTY, 10, [(7, 2, 0), (8, 3, 0)])
        self.check_missed(EMPTY, 11, [(7, 2, 0), (8, 3, 0)])
        self.check_missed(EMPTY, 12, [(7, 2, 0), (8, 0, 0), (8, 3, 0)])
        self.check_missed(EMPTY, GREAT, [(7, 2, 0), (8, 0, 0), (8, 3, 0), (31, 2, 1), (32, 0, 1), (32, 3, 1),
                                         (56, 0, 2)])

    def test_given_dues_are_in_neither(self):
        book = book_with([(0, 11, 10), (3, 32, 10)])
        for hour in (6, 8, 11):
            self.assertNotIn((8, 0, 0), open_dues(WORLD, book, hour))
        self.check_open(book, 8, [(8, 3, 0)])
        self.check_open(book, 32, [(32, 0, 1)])
        self.check_missed(book, 60, [(7, 2, 0), (8, 3, 0), (31, 2, 1), (32, 0, 1), (56, 0, 2)])

    def test_a_giving_of_another_order_or_beside_the_span_is_none(self):
        book = book_with([(1, 8, 10), (2, 8, 10), (0, 12, 10), (0, 5, 10)])
        self.check_open(book, 8, [(8, 0, 0), (8, 3, 0)])

    def test_books_with_faults(self):
        book = book_with([(0, 8, -7), (0, 9, 0), (0, 20, 10 ** 6)])
        self.assertNotEqual(faults(WORLD, book), [])
        self.check_open(book, 8, [(8, 3, 0)])
        self.check_missed(book, 20, [(7, 2, 0), (8, 3, 0)])
        self.check_change(WORLD, book, 9, 10)

    def test_sorted_by_the_due_s_hour(self):
        world = (GUESTS, (MILK,), (), (
            due_order("a", 0, 0, (100, 200, 2, 100, 50)),
            due_order("b", 0, 0, (90, 10, 3, 5, 4)),
            due_order("c", 0, 0, (9, 200, 2, 9, 150)),
        ))
        self.check_list(open_dues, world, EMPTY, 100, [(9, 2, 0), (100, 0, 0), (100, 1, 1)])
        self.check_list(open_dues, world, EMPTY, 106, [(9, 2, 0), (100, 0, 0), (110, 1, 2)])
        self.check_list(missed_dues, world, EMPTY, 1000,
                        [(9, 2, 0), (90, 1, 0), (100, 0, 0), (100, 1, 1), (110, 1, 2), (209, 2, 1), (300, 0, 1)])

    def test_orders_without_dues(self):
        world = (GUESTS, (MILK,), (), (asked_order("a", 0, 0),))
        self.check_list(open_dues, world, EMPTY, 5, [])
        self.check_list(missed_dues, world, EMPTY, 5, [])
        self.check_change(world, EMPTY, 5, None)
        self.check_change(((), (), (), ()), EMPTY, 5, None)

    def test_next_change(self):
        for hour, told in ((0, 6), (5, 6), (6, 7), (7, 8), (8, 10), (9, 10), (10, 12), (11, 12), (12, 30), (29, 30),
                           (30, 31), (31, 32), (32, 34), (33, 34), (34, 36), (35, 36), (36, 54), (53, 54), (54, 60),
                           (59, 60), (60, None), (GREAT, None)):
            self.check_change(WORLD, EMPTY, hour, told)

    def test_a_given_due_changes_no_more(self):
        self.check_change(WORLD, book_with([(0, 6, 10)]), 0, 7)
        self.check_change(WORLD, book_with([(0, 6, 10)]), 10, 30)
        self.check_change(WORLD, book_with([(0, 6, 10), (0, 54, 10)]), 36, None)
        self.check_change(WORLD, book_with([(0, 54, 10)]), 35, 36)
        self.check_change(WORLD, book_with([(0, 60, 10)]), 59, 60)

    def test_changes_as_far_as_they_come(self):
        world = (GUESTS, (MILK,), (), (due_order("a", 0, 0, (GREAT, GREAT, 60, 0, GREAT - 1)),))
        self.check_change(world, EMPTY, 0, GREAT)
        self.check_change(world, EMPTY, GREAT, 2 * GREAT)
        self.check_list(open_dues, world, EMPTY, GREAT, [(GREAT, 0, 0)])

    def test_a_told_list_is_the_asker_s_own(self):
        open_dues(WORLD, EMPTY, 8).clear()
        missed_dues(WORLD, EMPTY, 8).append(None)
        self.check_open(EMPTY, 8, [(8, 0, 0), (8, 3, 0)])
        self.check_missed(EMPTY, 8, [(7, 2, 0)])

    def test_by_the_words(self):
        chance = random.Random(25)
        for turn in range(60):
            orders = []
            for number in range(chance.randint(1, 4)):
                every = chance.randint(1, 9)
                early = chance.randint(0, every - 1)
                dues = (chance.randint(early, 12), every, chance.randint(1, 4), early,
                        chance.randint(0, every - 1 - early))
                orders.append(due_order("abcd"[number], 0, 0, dues))
            world = (GUESTS, (MILK,), (), tuple(orders))
            places = {(chance.randrange(len(orders)), chance.randint(0, 40)) for number in range(chance.randint(0, 5))}
            book = book_with([place + (10,) for place in places])
            told = [states_by_the_words(world, book, hour) for hour in range(70)]
            for hour in range(50):
                for asked, word in ((open_dues, "open"), (missed_dues, "missed")):
                    self.check_list(asked, world, book, hour,
                                    sorted(due for due, state in told[hour].items() if state == word))
                later = [at for at in range(hour + 1, 70) if told[at] != told[at - 1]]
                self.check_change(world, book, hour, later[0] if later else None)


class Round(unittest.TestCase):

    def check(self, world, book, hour, takes, helds):
        with self.subTest(book=book, hour=hour):
            answer = round_at(world, book, hour)
            self.assertEqual(answer, (takes, helds))
            self.assertIs(type(answer), tuple)
            self.assertEqual([type(part) for part in answer], [list, list])
            for row in answer[0] + answer[1]:
                self.assertIs(type(row), tuple)
            for row in answer[1]:
                self.assertIs(type(row[2]), list)
            house = House(world)
            for row in book[0]:
                house.weigh(*row)
            for row in book[1]:
                house.give(*row)
            for order, k, amount in answer[0]:
                house.give(order, hour, amount)

    def one(self, rule, tapers=(), caps=(), sizes=(5,), young=0):
        """A world of one order, due at 10, 20, 30 and 40."""
        return (GUESTS, (("milk", sizes, caps, young),), (), (due_order("a", 0, 0, (10, 10, 4, 2, 3), rule, tapers),))

    def test_no_open_dues(self):
        self.check(WORLD, EMPTY, 0, [], [])
        self.check(((), (), (), ()), EMPTY, 0, [], [])
        self.check(self.one(("up", 10, 0, 100)), book_with([(0, 9, 10)]), 10, [], [])

    def test_a_dose_without_weight(self):
        self.check(self.one(("up", 11, 0, 100)), EMPTY, 8, [(0, 0, 15)], [])
        self.check(self.one(("down", 11, 0, 100)), EMPTY, 23, [(0, 1, 10)], [])
        self.check(self.one(("down", 999, 0, 100)), EMPTY, 23, [(0, 1, 100)], [])
        self.check(self.one(("down", 999, 0, 103)), EMPTY, 23, [(0, 1, 100)], [])

    def test_a_dose_by_the_weight_at_the_hour(self):
        world = self.one(("near", 2, 3, 1000))
        weights = [(0, 5, 60), (0, 20, 90), (1, 20, 300), (0, 21, 30)]
        self.check(world, book_with([], weights), 10, [(0, 0, 40)], [])
        self.check(world, book_with([], weights), 19, [(0, 1, 40)], [])
        self.check(world, book_with([], weights), 20, [(0, 1, 60)], [])
        self.check(world, book_with([], weights), 21, [(0, 1, 20)], [])

    def test_each_order_by_its_own_guest_and_stuff(self):
        stuffs = (("milk", (5, 10), (), 0), ("honey", (3, 9), (), 0))
        orders = (
            due_order("a", 1, 0, (10, 10, 4, 2, 3), ("near", 1, 1, 1000)),
            due_order("b", 0, 1, (11, 10, 4, 3, 3), ("near", 1, 1, 1000)),
        )
        book = book_with([], [(0, 0, 31), (1, 0, 62)])
        self.check((GUESTS, stuffs, (), orders), book, 10, [(0, 0, 60), (1, 0, 30)], [])

    def test_a_dose_by_the_due_s_taper(self):
        world = self.one(("up", 100, 0, 1000), ((1, 1, 2), (3, 1, 3)))
        self.check(world, EMPTY, 10, [(0, 0, 100)], [])
        self.check(world, EMPTY, 20, [(0, 1, 50)], [])
        self.check(world, EMPTY, 30, [(0, 2, 50)], [])
        self.check(world, EMPTY, 40, [(0, 3, 35)], [])

    def test_a_dose_by_weight_and_taper(self):
        world = self.one(("down", 7, 2, 1000), ((1, 2, 3),))
        self.check(world, book_with([], [(0, 0, 61)]), 10, [(0, 0, 210)], [])
        self.check(world, book_with([], [(0, 0, 61)]), 20, [(0, 1, 140)], [])

    def test_a_dose_that_is_rounded_to_0(self):
        self.check(self.one(("down", 4, 0, 100)), EMPTY, 10, [], [(0, 0, [("part", 0, 10)])])
        self.check(self.one(("near", 10, 0, 100), ((1, 1, 4),)), EMPTY, 20, [], [(0, 1, [("part", 0, 20)])])

    def test_no_weight_is_held_back(self):
        world = self.one(("up", 2, 3, 100))
        self.check(world, EMPTY, 10, [], [(0, 0, [("weight", 0, 10)])])
        self.check(world, book_with([], [(0, 11, 60), (1, 0, 60)]), 10, [], [(0, 0, [("weight", 0, 10)])])
        self.check(world, book_with([], [(0, 10, 60)]), 10, [(0, 0, 40)], [])

    def test_no_weight_is_told_ahead_of_all_other_faults(self):
        world = self.one(("up", 2, 3, 100), (), (("kilo", 5, 5, 5),), young=99)
        self.check(world, EMPTY, 10, [], [(0, 0, [("weight", 0, 10)])])
        self.check(world, book_with([], [(0, 0, 15)]), 10, [], [(0, 0, [("young", 0, 10)])])

    def test_a_cap_that_asks_for_a_weight(self):
        world = self.one(("up", 10, 0, 100), (), (("kilo", 24, 1, 1),))
        self.check(world, EMPTY, 10, [], [(0, 0, [("weight", 0, 10)])])
        self.check(world, book_with([], [(0, 0, 10)]), 10, [(0, 0, 10)], [])
        self.check(world, book_with([], [(0, 0, 9)]), 10, [], [(0, 0, [("cap", 0, 0, 0, 10, 10, 9)])])

    def test_a_cap_with_what_stands(self):
        world = self.one(("up", 10, 0, 100), (), (("flat", 11, 15),))
        book = book_with([(0, 10, 10)])
        self.check(world, book, 20, [], [(0, 1, [("cap", 0, 0, 0, 20, 20, 15)])])
        self.check(world, book, 21, [(0, 1, 10)], [])

    def test_a_later_giving_that_stands(self):
        world = self.one(("up", 10, 0, 100), (), (("flat", 11, 15),))
        self.check(world, book_with([(0, 30, 10)]), 20, [], [(0, 1, [("cap", 0, 0, 0, 30, 20, 15)])])

    def test_an_earlier_due_that_is_taken_makes_a_later_one_a_fault(self):
        stuffs = (("milk", (5,), (("flat", 24, 25),), 0), ("honey", (1,), (), 0))
        orders = (
            due_order("a", 0, 0, (11, 20, 2, 5, 5)),
            due_order("b", 0, 0, (10, 20, 2, 5, 5), ("up", 20, 0, 100)),
            due_order("c", 0, 1, (9, 20, 2, 5, 5), ("up", 3, 0, 100)),
            due_order("d", 1, 0, (12, 20, 2, 5, 5)),
            due_order("e", 0, 1, (8, 20, 2, 5, 5), ("down", 1, 10, 100)),
            due_order("f", 0, 0, (12, 20, 2, 5, 5), ("up", 5, 0, 100)),
        )
        world = (GUESTS, stuffs, (), orders)
        self.check(world, EMPTY, 10,
                   [(2, 0, 3), (1, 0, 20), (3, 0, 10), (5, 0, 5)],
                   [(4, 0, [("weight", 4, 10)]), (0, 0, [("cap", 0, 0, 0, 10, 30, 25)])])
        barred = (GUESTS, stuffs, ((0, 1, 4),), orders)
        self.check(barred, EMPTY, 10,
                   [(2, 0, 3), (3, 0, 10)],
                   [(4, 0, [("weight", 4, 10)]), (1, 0, [("gap", 1, 10, 2, 10)]), (0, 0, [("gap", 0, 10, 2, 10)]),
                    (5, 0, [("gap", 2, 10, 5, 10)])])
        self.check(barred, EMPTY, 6, [(2, 0, 3)],
                   [(4, 0, [("weight", 4, 6)]), (1, 0, [("gap", 1, 6, 2, 6)]), (0, 0, [("gap", 0, 6, 2, 6)])])

    def test_what_is_held_back_does_not_stand_in_the_way_of_what_comes_behind(self):
        orders = (
            due_order("a", 0, 0, (9, 20, 2, 5, 5), ("up", 30, 0, 100)),
            due_order("b", 0, 0, (10, 20, 2, 5, 5), ("up", 20, 0, 100)),
        )
        world = (GUESTS, (("milk", (5,), (("flat", 24, 25),), 0),), ((0, 0, 3),), orders)
        self.check(world, EMPTY, 10, [(1, 0, 20)], [(0, 0, [("cap", 0, 0, 0, 10, 30, 25)])])

    def test_all_faults_are_told(self):
        orders = (
            due_order("a", 0, 0, (9, 20, 2, 5, 5), ("up", 20, 0, 100)),
            due_order("b", 0, 0, (10, 20, 2, 5, 5), ("up", 20, 0, 100)),
        )
        world = (GUESTS, (("milk", (5,), (("flat", 24, 25), ("ever", 35)), 0),), ((0, 0, 3),), orders)
        self.check(world, EMPTY, 10, [(0, 0, 20)],
                   [(1, 0, [("cap", 0, 0, 0, 10, 40, 25), ("cap", 0, 0, 1, 10, 40, 35), ("gap", 0, 10, 1, 10)])])

    def test_what_is_told_is_the_asker_s_own(self):
        world = self.one(("down", 4, 0, 100))
        told = round_at(world, EMPTY, 10)
        told[0].append(None)
        told[1][0][2].clear()
        told[1].clear()
        self.check(world, EMPTY, 10, [], [(0, 0, [("part", 0, 10)])])


class PiecesFor(unittest.TestCase):

    def check(self, sizes, amount, many, most=None):
        part = sizes[0]
        stuffs = (("oil", (7,), (), 0), ("milk", sizes, (), 0))
        orders = (asked_order("a", 0, 0), asked_order("b", 0, 1, ("up", 1, 0, most or 2000 * part)))
        with self.subTest(sizes=sizes, amount=amount):
            answer = pieces_for((GUESTS, stuffs, (), orders), 1, amount)
            self.assertIs(type(answer), tuple)
            self.assertEqual(len(answer), len(sizes))
            self.assertGreaterEqual(min(answer), 0)
            self.assertEqual(sum(count * size for count, size in zip(answer, sizes)), amount)
            self.assertEqual(sum(answer), many)

    def test_amount_0(self):
        self.check((5,), 0, 0)
        self.check((5, 10, 25), 0, 0)

    def test_ordinary_amounts(self):
        self.check((5, 10, 25), 5, 1)
        self.check((5, 10, 25), 40, 3)
        self.check((5, 10, 25), 95, 5)
        self.check((1, 3, 4), 6, 2)

    def test_the_greatest_first_is_not_the_fewest(self):
        self.check((5, 15, 20), 30, 2)
        self.check((100, 1000, 2500), 3000, 3)

    def test_great_parts_are_reckoned_in_parts(self):
        part = 500000
        self.check((part, 3 * part, 4 * part, 2000 * part), GREAT, 1)
        self.check((part, 3 * part, 4 * part), 6 * part, 2)
        self.check((part,), GREAT, 2000)
        self.check((GREAT,), GREAT, 1)
        self.check((GREAT,), 0, 0)

    def test_2000_parts_of_eight_sizes(self):
        self.check((5, 35, 55, 95, 505, 2515, 4985, 9995), 10000, 2)
        self.check((5, 35, 55, 95, 505, 2515, 4985, 10000), 10000, 1)


if __name__ == "__main__":
    unittest.main()
