"""Points 20, 21 and 22: all faults of a book; points 2 and 5 for what is handed in and told."""

import random
import unittest

from dosehouse.faults import faults

GREAT = 10 ** 9
GUESTS = (("ann", 0), ("bob", 0))


def asked(guest, stuff, most=1000, begin=0):
    """A row of an order, its name left out."""
    return (guest, stuff, ("up", 1, 0, most), ("asked", begin), ())


def due(guest, stuff, begin, every, many, early, late):
    return (guest, stuff, ("up", 1, 0, 1000), ("due", begin, every, many, early, late), ())


def stuff_row(caps=(), part=1, young=0):
    return ((part,), tuple(caps), young)


def world_of(stuffs, orders, bars=(), guests=GUESTS):
    """A world of these rows, with names laid on."""
    return (
        tuple(guests),
        tuple(("abcdef"[k],) + row for k, row in enumerate(stuffs)),
        tuple(bars),
        tuple(("abcdefghijkl"[k],) + row for k, row in enumerate(orders)),
    )


def book_of(givings, weights=()):
    return (tuple(sorted(weights)), tuple(sorted(givings)))


class Faults(unittest.TestCase):

    def check(self, world, givings, told, weights=()):
        book = book_of(givings, weights)
        with self.subTest(book=book):
            answer = faults(world, book)
            self.assertEqual(answer, told)
            self.assertIs(type(answer), list)
            for fault in answer:
                self.assertIs(type(fault), tuple)
            self.assertEqual(book, book_of(givings, weights))


class NoFaults(Faults):

    def test_a_book_without_givings(self):
        world = world_of([stuff_row([("flat", 24, 1), ("kilo", 24, 1, 1), ("ever", 1)], 5, 70)],
                         [asked(0, 0, 5, 10), due(1, 0, 8, 24, 3, 2, 3)], [(0, 0, 9)])
        self.check(world, [], [])
        self.check(world, [], [], [(0, 0, 1), (1, 5, 10 ** 6)])
        self.check(((), (), (), ()), [], [])


class Astray(Faults):

    def test_an_asked_order(self):
        world = world_of([stuff_row()], [asked(0, 0, begin=10)])
        self.check(world, [(0, 9, 1)], [("astray", 0, 9)])
        self.check(world, [(0, 0, 1)], [("astray", 0, 0)])
        self.check(world, [(0, 10, 1)], [])
        self.check(world, [(0, 11, 1)], [])

    def test_an_order_with_dues(self):
        world = world_of([stuff_row()], [asked(0, 0), due(0, 0, 8, 24, 2, 2, 3)])
        for hour in (6, 8, 11, 30, 35):
            self.check(world, [(1, hour, 1)], [])
        for hour in (0, 5, 12, 29, 36, 54, 56, GREAT):
            self.check(world, [(1, hour, 1)], [("astray", 1, hour)])

    def test_each_giving_for_itself(self):
        world = world_of([stuff_row()], [asked(0, 0, begin=10), asked(1, 0, begin=7)])
        self.check(world, [(0, 5, 1), (0, 9, 1), (0, 10, 1), (1, 6, 1), (1, 7, 1)],
                   [("astray", 0, 5), ("astray", 0, 9), ("astray", 1, 6)])


class Caps(Faults):

    def test_flat_at_the_bound_and_one_above(self):
        world = world_of([stuff_row([("flat", 24, 100)])], [asked(0, 0)])
        self.check(world, [(0, 10, 100)], [])
        self.check(world, [(0, 10, 101)], [("cap", 0, 0, 0, 10, 101, 100)])
        self.check(world, [(0, 10, 60), (0, 20, 40)], [])
        self.check(world, [(0, 10, 60), (0, 20, 41)], [("cap", 0, 0, 0, 20, 101, 100)])

    def test_just_within_and_just_outside_the_hours(self):
        world = world_of([stuff_row([("flat", 24, 100)])], [asked(0, 0)])
        self.check(world, [(0, 10, 60), (0, 33, 60)], [("cap", 0, 0, 0, 33, 120, 100)])
        self.check(world, [(0, 10, 60), (0, 34, 60)], [])
        one = world_of([stuff_row([("flat", 1, 100)])], [asked(0, 0), asked(0, 0)])
        self.check(one, [(0, 10, 60), (0, 11, 60)], [])
        self.check(one, [(0, 10, 60), (1, 10, 60)], [("cap", 0, 0, 0, 10, 120, 100)])

    def test_each_hour_at_which_a_giving_stands(self):
        world = world_of([stuff_row([("flat", 24, 100)])], [asked(0, 0)])
        self.check(world, [(0, 10, 60), (0, 20, 60), (0, 30, 60), (0, 44, 60)],
                   [("cap", 0, 0, 0, 20, 120, 100), ("cap", 0, 0, 0, 30, 180, 100), ("cap", 0, 0, 0, 44, 120, 100)])

    def test_ever(self):
        world = world_of([stuff_row([("ever", 100)])], [asked(0, 0)])
        self.check(world, [(0, 0, 60), (0, GREAT, 40)], [])
        self.check(world, [(0, 0, 60), (0, GREAT, 41)], [("cap", 0, 0, 0, GREAT, 101, 100)])

    def test_kilo_goes_by_the_weight_at_the_hour(self):
        world = world_of([stuff_row([("kilo", 24, 3, 2)])], [asked(0, 0)])
        weights = [(0, 0, 67)]
        self.check(world, [(0, 10, 100)], [], weights)
        self.check(world, [(0, 10, 101)], [("cap", 0, 0, 0, 10, 101, 100)], weights)
        self.check(world, [(0, 10, 60), (0, 33, 41)], [("cap", 0, 0, 0, 33, 101, 100)], weights)
        self.check(world, [(0, 10, 60), (0, 34, 41)], [], weights)

    def test_a_weighing_between_two_givings(self):
        world = world_of([stuff_row([("kilo", 24, 1, 1)])], [asked(0, 0)])
        givings = [(0, 10, 40), (0, 30, 40)]
        self.check(world, givings, [], [(0, 0, 100)])
        self.check(world, givings, [], [(0, 0, 80)])
        self.check(world, givings, [("cap", 0, 0, 0, 30, 80, 50)], [(0, 0, 100), (0, 20, 50)])
        self.check(world, givings, [("cap", 0, 0, 0, 30, 80, 50)], [(0, 0, 100), (0, 30, 50)])
        self.check(world, givings, [], [(0, 0, 100), (0, 31, 50)])
        self.check(world, givings, [("cap", 0, 0, 0, 10, 40, 39)], [(0, 0, 39), (0, 11, 100)])
        self.check(world, givings, [], [(0, 0, 100), (1, 20, 50)])

    def test_a_guest_without_a_weight_has_no_fault_by_a_kilo_cap(self):
        world = world_of([stuff_row([("kilo", 24, 1, 1), ("flat", 24, 50)])], [asked(0, 0)])
        self.check(world, [(0, 10, 50)], [("weight", 0, 10)])
        self.check(world, [(0, 10, 60)], [("cap", 0, 0, 1, 10, 60, 50), ("weight", 0, 10)])
        self.check(world, [(0, 10, 60)], [("cap", 0, 0, 1, 10, 60, 50), ("weight", 0, 10)], [(1, 0, 5), (0, 11, 5)])

    def test_all_orders_of_one_guest_and_stuff_go_together(self):
        world = world_of([stuff_row([("flat", 24, 100)]), stuff_row([("flat", 24, 100)])],
                         [asked(0, 0), asked(0, 0), asked(1, 0), asked(0, 1)])
        self.check(world, [(0, 10, 60), (1, 12, 60)], [("cap", 0, 0, 0, 12, 120, 100)])
        self.check(world, [(0, 12, 60), (1, 10, 60)], [("cap", 0, 0, 0, 12, 120, 100)])
        self.check(world, [(0, 10, 60), (1, 10, 60)], [("cap", 0, 0, 0, 10, 120, 100)])
        self.check(world, [(0, 10, 60), (2, 12, 60), (3, 11, 60)], [])
        self.check(world, [(2, 10, 101), (3, 9, 102)], [("cap", 0, 1, 0, 9, 102, 100), ("cap", 1, 0, 0, 10, 101, 100)])

    def test_an_hour_of_an_amount_of_nought_or_below(self):
        world = world_of([stuff_row([("flat", 24, 100)])], [asked(0, 0)])
        self.check(world, [(0, 10, 101), (0, 12, 0)],
                   [("cap", 0, 0, 0, 10, 101, 100), ("cap", 0, 0, 0, 12, 101, 100), ("part", 0, 12)])
        self.check(world, [(0, 10, 105), (0, 12, -4)],
                   [("cap", 0, 0, 0, 10, 105, 100), ("cap", 0, 0, 0, 12, 101, 100), ("part", 0, 12)])
        self.check(world, [(0, 10, 105), (0, 12, -5)], [("cap", 0, 0, 0, 10, 105, 100), ("part", 0, 12)])
        self.check(world, [(0, 10, -50), (0, 12, 150)], [("part", 0, 10)])

    def test_several_caps_of_one_stuff(self):
        world = world_of([stuff_row([("flat", 24, 100), ("flat", 6, 50), ("ever", 150), ("kilo", 24, 1, 1)])],
                         [asked(0, 0)])
        weights = [(0, 0, 90)]
        self.check(world, [(0, 10, 50), (0, 16, 40)], [], weights)
        self.check(world, [(0, 10, 50), (0, 15, 40)], [("cap", 0, 0, 1, 15, 90, 50)], weights)
        self.check(world, [(0, 10, 50), (0, 16, 50)], [("cap", 0, 0, 3, 16, 100, 90)], weights)
        self.check(world, [(0, 10, 50), (0, 16, 40), (0, 40, 50)], [], weights)
        self.check(world, [(0, 10, 50), (0, 16, 40), (0, 40, 50), (0, 90, 11)], [("cap", 0, 0, 2, 90, 151, 150)],
                   weights)

    def test_two_caps_that_are_alike(self):
        world = world_of([stuff_row([("flat", 24, 100), ("ever", 500), ("flat", 24, 100)])], [asked(0, 0)])
        self.check(world, [(0, 10, 101)], [("cap", 0, 0, 0, 10, 101, 100), ("cap", 0, 0, 2, 10, 101, 100)])


class Gaps(Faults):

    def test_just_so_many_hours_and_one_less(self):
        world = world_of([stuff_row(), stuff_row()], [asked(0, 0), asked(0, 1)], [(0, 1, 5)])
        self.check(world, [(0, 10, 1), (1, 15, 1)], [])
        self.check(world, [(0, 10, 1), (1, 14, 1)], [("gap", 0, 10, 1, 14)])
        self.check(world, [(0, 15, 1), (1, 10, 1)], [])
        self.check(world, [(0, 14, 1), (1, 10, 1)], [("gap", 1, 10, 0, 14)])

    def test_at_one_hour(self):
        world = world_of([stuff_row(), stuff_row()], [asked(0, 1), asked(0, 0)], [(0, 1, 1)])
        self.check(world, [(0, 10, 1), (1, 10, 1)], [("gap", 0, 10, 1, 10)])
        self.check(world, [(0, 10, 1), (1, 11, 1)], [])
        self.check(world, [(0, 11, 1), (1, 10, 1)], [])

    def test_one_stuff_and_two_orders(self):
        world = world_of([stuff_row()], [asked(0, 0), asked(0, 0)], [(0, 0, 5)])
        self.check(world, [(0, 10, 1), (1, 14, 1)], [("gap", 0, 10, 1, 14)])
        self.check(world, [(0, 10, 1), (1, 10, 1)], [("gap", 0, 10, 1, 10)])
        self.check(world, [(0, 14, 1), (1, 10, 1)], [("gap", 1, 10, 0, 14)])
        self.check(world, [(0, 10, 1), (1, 15, 1)], [])

    def test_one_order(self):
        world = world_of([stuff_row()], [asked(0, 0)], [(0, 0, 5)])
        self.check(world, [(0, 10, 1), (0, 14, 1)], [("gap", 0, 10, 0, 14)])
        self.check(world, [(0, 10, 1), (0, 15, 1)], [])
        self.check(world, [(0, 10, 1)], [])
        self.check(world, [(0, 10, 1), (0, 12, 1), (0, 14, 1), (0, 17, 1)],
                   [("gap", 0, 10, 0, 12), ("gap", 0, 10, 0, 14), ("gap", 0, 12, 0, 14), ("gap", 0, 14, 0, 17)])

    def test_other_guests_and_stuffs_that_no_bar_names(self):
        world = world_of([stuff_row(), stuff_row(), stuff_row()],
                         [asked(0, 0), asked(1, 1), asked(0, 2), asked(0, 0)], [(0, 1, 50), (1, 2, 50)])
        self.check(world, [(0, 10, 1), (1, 10, 1), (2, 10, 1), (3, 10, 1)], [])

    def test_each_bar_has_its_own_gap(self):
        world = world_of([stuff_row(), stuff_row(), stuff_row()],
                         [asked(0, 0), asked(0, 1), asked(0, 2)], [(1, 2, 3), (0, 2, 9), (0, 1, 5)])
        self.check(world, [(0, 10, 1), (1, 15, 1), (2, 19, 1)], [])
        self.check(world, [(0, 10, 1), (1, 14, 1), (2, 18, 1)], [("gap", 0, 10, 1, 14), ("gap", 0, 10, 2, 18)])
        self.check(world, [(0, 10, 1), (1, 17, 1), (2, 19, 1)], [("gap", 1, 17, 2, 19)])

    def test_a_wider_gap_reaches_over_givings_between(self):
        world = world_of([stuff_row(), stuff_row()], [asked(0, 0), asked(1, 0), asked(0, 1)], [(0, 0, 2), (0, 1, 100)])
        self.check(world, [(0, 10, 1), (1, 20, 1), (0, 40, 1), (2, 109, 1)],
                   [("gap", 0, 10, 2, 109), ("gap", 0, 40, 2, 109)])

    def test_gaps_as_great_as_can_be(self):
        world = world_of([stuff_row()], [asked(0, 0)], [(0, 0, GREAT)])
        self.check(world, [(0, 0, 1), (0, GREAT, 1)], [])
        self.check(world, [(0, 1, 1), (0, GREAT, 1)], [("gap", 0, 1, 0, GREAT)])

    def test_givings_of_nought_count_too(self):
        world = world_of([stuff_row()], [asked(0, 0)], [(0, 0, 5)])
        self.check(world, [(0, 10, 0), (0, 14, 1)], [("gap", 0, 10, 0, 14), ("part", 0, 10)])


class LoneFaults(Faults):

    def test_most(self):
        world = world_of([stuff_row()], [asked(0, 0, 50), asked(0, 0, 60)])
        self.check(world, [(0, 10, 50), (1, 10, 60)], [])
        self.check(world, [(0, 10, 51), (1, 10, 60)], [("most", 0, 10)])
        self.check(world, [(0, 10, 50), (1, 10, 61)], [("most", 1, 10)])
        self.check(world, [(0, 10, GREAT)], [("most", 0, 10)])

    def test_part(self):
        world = world_of([((5, 10, 20), (), 0), stuff_row()], [asked(0, 0), asked(0, 1)])
        for amount in (5, 10, 15, 20, 1000):
            self.check(world, [(0, 10, amount)], [])
        for amount in (0, -1, -5, -10, 1, 4, 6, 9, 11, 999, -GREAT):
            self.check(world, [(0, 10, amount)], [("part", 0, 10)])
        for amount in (1, 2, 3):
            self.check(world, [(1, 10, amount)], [])
        for amount in (0, -1):
            self.check(world, [(1, 10, amount)], [("part", 1, 10)])

    def test_weight(self):
        by_weight = stuff_row([("flat", 5, 500), ("kilo", 5, 500, 1)])
        without = stuff_row([("flat", 5, 500), ("ever", 9)])
        world = world_of([by_weight, without], [asked(0, 0), asked(0, 1), asked(1, 0)])
        self.check(world, [(0, 10, 1)], [("weight", 0, 10)])
        self.check(world, [(0, 10, 1)], [("weight", 0, 10)], [(0, 11, 70)])
        self.check(world, [(0, 10, 1)], [], [(0, 10, 70)])
        self.check(world, [(0, 10, 1)], [], [(0, 9, 70)])
        self.check(world, [(0, 10, 1)], [("weight", 0, 10)], [(1, 9, 70)])
        self.check(world, [(1, 10, 1)], [])
        self.check(world, [(2, 10, 1), (0, 9, 1), (0, 10, 1)], [("weight", 0, 9), ("weight", 2, 10)], [(0, 10, 70)])

    def test_young(self):
        world = world_of([stuff_row(young=24), stuff_row()], [asked(0, 0), asked(1, 0), asked(1, 1)],
                         guests=(("ann", 0), ("bob", 100)))
        self.check(world, [(0, 23, 1)], [("young", 0, 23)])
        self.check(world, [(0, 24, 1)], [])
        self.check(world, [(1, 123, 1)], [("young", 1, 123)])
        self.check(world, [(1, 124, 1)], [])
        self.check(world, [(2, 99, 1)], [("young", 2, 99)])
        self.check(world, [(2, 100, 1)], [])
        far = world_of([stuff_row(young=GREAT)], [asked(0, 0)], guests=(("ann", GREAT),))
        self.check(far, [(0, GREAT, 1)], [("young", 0, GREAT)])


class Twice(Faults):

    def test_two_and_three_in_one_span(self):
        world = world_of([stuff_row()], [asked(0, 0), due(0, 0, 8, 24, 3, 2, 3)])
        self.check(world, [(1, 6, 1), (1, 30, 1), (1, 59, 1)], [])
        self.check(world, [(1, 6, 1), (1, 11, 1)], [("twice", 1, 0)])
        self.check(world, [(1, 30, 1), (1, 31, 1), (1, 35, 1)], [("twice", 1, 1)])
        self.check(world, [(1, 6, 1), (1, 7, 1), (1, 54, 1), (1, 59, 1)], [("twice", 1, 0), ("twice", 1, 2)])
        self.check(world, [(1, 11, 1), (1, 12, 1)], [("astray", 1, 12)])

    def test_spans_without_an_hour_between(self):
        world = world_of([stuff_row()], [due(0, 0, 4, 10, 3, 4, 5)])
        self.check(world, [(0, 9, 1), (0, 10, 1)], [])
        self.check(world, [(0, 10, 1), (0, 19, 1)], [("twice", 0, 1)])

    def test_orders_are_kept_apart(self):
        world = world_of([stuff_row()], [due(0, 0, 8, 24, 3, 2, 3), due(0, 0, 8, 24, 3, 2, 3)])
        self.check(world, [(0, 8, 1), (1, 8, 1)], [])
        self.check(world, [(0, 8, 1), (1, 8, 1), (1, 9, 1)], [("twice", 1, 0)])

    def test_an_asked_order_has_none(self):
        self.check(world_of([stuff_row()], [asked(0, 0)]), [(0, 8, 1), (0, 9, 1)], [])

    def test_givings_of_nought_count_too(self):
        world = world_of([stuff_row()], [due(0, 0, 8, 24, 3, 2, 3)])
        self.check(world, [(0, 8, 0), (0, 9, 1)], [("part", 0, 8), ("twice", 0, 0)])


class Several(Faults):

    def test_all_eight_kinds_at_once(self):
        world = world_of([stuff_row([("kilo", 24, 1, 1), ("flat", 24, 10)], 2, 20)],
                         [due(0, 0, 8, 24, 2, 2, 3), asked(1, 0, 20, 12)], [(0, 0, 4)],
                         (("ann", 0), ("bob", 5)))
        self.check(world, [(0, 7, 2), (0, 10, 2), (0, 29, 12), (1, 11, 21)], [
            ("astray", 0, 29),
            ("astray", 1, 11),
            ("cap", 0, 0, 0, 29, 16, 9),
            ("cap", 0, 0, 1, 29, 16, 10),
            ("cap", 1, 0, 1, 11, 21, 10),
            ("gap", 0, 7, 0, 10),
            ("most", 1, 11),
            ("part", 1, 11),
            ("twice", 0, 0),
            ("weight", 0, 7),
            ("weight", 1, 11),
            ("young", 0, 7),
            ("young", 0, 10),
            ("young", 1, 11),
        ], [(0, 8, 9)])

    def test_numbers_are_sorted_as_numbers(self):
        world = world_of([stuff_row()], [asked(0, 0, 5) for turn in range(12)])
        givings = [(order, hour, 6) for order in (2, 10, 11) for hour in (9, 10, 100)]
        self.check(world, givings, [("most", order, hour) for order in (2, 10, 11) for hour in (9, 10, 100)])

    def test_a_told_list_is_the_asker_s_own(self):
        world = world_of([stuff_row()], [asked(0, 0, 5)])
        told = faults(world, ((), ((0, 1, 6),)))
        told.append("nothing")
        told[0] = None
        self.check(world, [(0, 1, 6)], [("most", 0, 1)])
        self.assertEqual(told, [None, "nothing"])


def weight_by_the_words(weights, guest, hour):
    found = [row for row in weights if row[0] == guest and row[1] <= hour]
    return max(found, key=lambda row: row[1])[2] if found else None


def caps_by_the_words(world, book):
    found = set()
    for number, hour, amount in book[1]:
        name, guest, stuff = world[3][number][:3]
        for k, cap in enumerate(world[1][stuff][2]):
            total = 0
            for other, at, much in book[1]:
                if world[3][other][1:3] == (guest, stuff) and at <= hour and (cap[0] == "ever" or at > hour - cap[1]):
                    total += much
            weight = weight_by_the_words(book[0], guest, hour)
            if cap[0] != "kilo":
                top = cap[-1]
            elif weight is None:
                continue
            else:
                top = weight * cap[2] // cap[3]
            if total > top:
                found.add(("cap", guest, stuff, k, hour, total, top))
    return found


def gaps_by_the_words(world, book):
    found = set()
    for one in book[1]:
        for two in book[1]:
            order, other = world[3][one[0]], world[3][two[0]]
            if (one[1], one[0]) < (two[1], two[0]) and order[1] == other[1]:
                for bar in world[2]:
                    if sorted(bar[:2]) == sorted((order[2], other[2])) and two[1] - one[1] < bar[2]:
                        found.add(("gap", one[0], one[1], two[0], two[1]))
    return found


def spans_by_the_words(dues):
    return [range(dues[1] + k * dues[2] - dues[4], dues[1] + k * dues[2] + dues[5] + 1) for k in range(dues[3])]


def by_the_words(world, book):
    found = caps_by_the_words(world, book) | gaps_by_the_words(world, book)
    for number, hour, amount in book[1]:
        name, guest, stuff, rule, dues, tapers = world[3][number]
        sizes, caps, young = world[1][stuff][1:]
        if dues[0] == "asked":
            if hour < dues[1]:
                found.add(("astray", number, hour))
        else:
            within = [k for k, hours in enumerate(spans_by_the_words(dues)) if hour in hours]
            if not within:
                found.add(("astray", number, hour))
            for k in within:
                hours = spans_by_the_words(dues)[k]
                if len([row for row in book[1] if row[0] == number and row[1] in hours]) > 1:
                    found.add(("twice", number, k))
        if amount > rule[3]:
            found.add(("most", number, hour))
        if amount not in range(sizes[0], 10 ** 6, sizes[0]):
            found.add(("part", number, hour))
        if "kilo" in [cap[0] for cap in caps] and weight_by_the_words(book[0], guest, hour) is None:
            found.add(("weight", number, hour))
        if hour - world[0][guest][1] < young:
            found.add(("young", number, hour))
    return sorted(found)


def some_stuff(chance):
    caps = [chance.choice((("flat", chance.randint(1, 20), chance.randint(1, 30)),
                           ("kilo", chance.randint(1, 20), chance.randint(1, 9), chance.randint(1, 5)),
                           ("ever", chance.randint(10, 60)))) for turn in range(chance.randint(0, 3))]
    return stuff_row(caps, chance.choice((1, 1, 2, 3)), chance.choice((0, 0, 5, 12)))


def some_order(chance, guests, stuffs):
    guest, stuff, most = chance.randrange(guests), chance.randrange(stuffs), chance.randint(3, 12)
    if chance.random() < 0.5:
        return asked(guest, stuff, most, chance.randint(0, 8))
    every = chance.randint(1, 9)
    early = chance.randint(0, every - 1)
    dues = ("due", chance.randint(early, 12), every, chance.randint(1, 6), early, chance.randint(0, every - 1 - early))
    return (guest, stuff, ("up", 1, 0, most), dues, ())


def some_world(chance):
    guests = [("ann", chance.randint(0, 6)), ("bob", chance.randint(0, 6))][:chance.randint(1, 2)]
    stuffs = [some_stuff(chance) for turn in range(chance.randint(1, 3))]
    pairs = [(one, two) for one in range(len(stuffs)) for two in range(one, len(stuffs))]
    bars = [pair + (chance.randint(1, 6),) for pair in chance.sample(pairs, chance.randint(0, len(pairs)))]
    orders = [some_order(chance, len(guests), len(stuffs)) for turn in range(chance.randint(1, 5))]
    return world_of(stuffs, orders, bars, guests)


def some_book(chance, world):
    weights = {(chance.randrange(len(world[0])), chance.randint(0, 40)): chance.randint(1, 20)
               for turn in range(chance.randint(0, 6))}
    amounts = (-2, 0, 1, 2, 3, 4, 6, 6, 12, 13)
    givings = {(chance.randrange(len(world[3])), chance.randint(0, 40)): chance.choice(amounts)
               for turn in range(chance.randint(0, 10))}
    return book_of([key + (amount,) for key, amount in givings.items()],
                   [key + (weight,) for key, weight in weights.items()])


def some_sound_book(chance, world):
    """A book without faults: givings that are tried one after another, and those that fit."""
    book = (some_book(chance, world)[0], ())
    for turn in range(20):
        order, hour = chance.randrange(len(world[3])), chance.randint(0, 40)
        part = world[1][world[3][order][2]][1][0]
        if (order, hour) not in [row[:2] for row in book[1]]:
            tried = book_of(book[1] + ((order, hour, part * chance.randint(1, 6)),), book[0])
            book = book if by_the_words(world, tried) else tried
    return book


class ByTheWords(unittest.TestCase):

    def test_many_worlds_and_books(self):
        chance = random.Random(21)
        kinds = set()
        for turn in range(1500):
            world = some_world(chance)
            book = some_book(chance, world)
            told = by_the_words(world, book)
            kinds.update(fault[0] for fault in told)
            self.assertEqual(faults(world, book), told, (world, book))
        self.assertEqual(len(kinds), 8)

    def test_fewer_givings_and_lesser_amounts_have_no_fault(self):
        chance = random.Random(22)
        seen = 0
        for turn in range(400):
            world = some_world(chance)
            book = some_sound_book(chance, world)
            seen += len(book[1])
            for place, row in enumerate(book[1]):
                fewer = book[1][:place] + book[1][place + 1:]
                self.assertEqual(faults(world, (book[0], fewer)), [], (world, book))
                part = world[1][world[3][row[0]][2]][1][0]
                for amount in range(part, row[2], part):
                    lesser = book[1][:place] + ((row[0], row[1], amount),) + book[1][place + 1:]
                    self.assertEqual(faults(world, (book[0], lesser)), [], (world, book))
        self.assertGreater(seen, 1000)


if __name__ == "__main__":
    unittest.main()
