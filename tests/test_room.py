"""Points 27 and 28: room at an hour, and waiting for one; points 2 and 5 for what is handed in."""

import random
import signal
import unittest

from dosehouse.books import givings_of, with_giving
from dosehouse.faults import faults
from dosehouse.room import room, wait

GREAT = 10 ** 9
EMPTY = ((), ())
GUESTS = (("ann", 0), ("bob", 0))


def asked(guest, stuff, most=100, begin=0):
    """A row of an order, its name left out."""
    return (guest, stuff, ("up", 1, 0, most), ("asked", begin), ())


def due(guest, stuff, dues, most=100):
    return (guest, stuff, ("up", 1, 0, most), ("due",) + dues, ())


def world_of(stuffs, orders, bars=(), guests=GUESTS):
    """A world of these rows; a stuff is (sizes, caps, young)."""
    return (
        tuple(guests),
        tuple(("abcdef"[k],) + row for k, row in enumerate(stuffs)),
        tuple(bars),
        tuple(("abcdefghijkl"[k],) + row for k, row in enumerate(orders)),
    )


def capped(caps, sizes=(5, 10), young=0):
    return (sizes, tuple(caps), young)


def book_with(givings, weights=()):
    return (tuple(sorted(weights)), tuple(sorted(givings)))


def fits(world, book, order, amount, hour):
    """Whether the amount can be given at the hour, by the words of points 27 and 28."""
    if hour in [at for at, much in givings_of(book, order)]:
        return False
    return faults(world, with_giving(book, order, hour, amount)) == []


def room_by_the_words(world, book, order, hour):
    part = world[1][world[3][order][2]][1][0]
    amounts = range(part, world[3][order][3][3] + 1, part)
    return max([0] + [amount for amount in amounts if fits(world, book, order, amount, hour)])


def wait_by_the_words(world, book, order, amount, hour, last):
    for at in range(hour, last + 1):
        if fits(world, book, order, amount, at):
            return at
    return None


class Room(unittest.TestCase):

    def check(self, world, book, order, hour, told):
        with self.subTest(book=book, order=order, hour=hour):
            self.assertEqual(faults(world, book), [])
            answer = room(world, book, order, hour)
            self.assertEqual(answer, told)
            self.assertIs(type(answer), int)

    def test_bound_by_the_most(self):
        self.check(world_of([capped([])], [asked(0, 0, 100)]), EMPTY, 0, 10, 100)
        self.check(world_of([capped([])], [asked(0, 0, 104)]), EMPTY, 0, 10, 100)
        self.check(world_of([capped([])], [asked(0, 0, 5)]), EMPTY, 0, 10, 5)
        self.check(world_of([capped([])], [asked(0, 0, 9)]), EMPTY, 0, 10, 5)
        self.check(world_of([capped([], (1,))], [asked(0, 0, 2000)]), EMPTY, 0, 10, 2000)
        self.check(world_of([capped([], (500000,))], [asked(0, 0, GREAT)]), EMPTY, 0, 10, GREAT)

    def test_bound_by_a_cap(self):
        world = world_of([capped([("flat", 24, 60)])], [asked(0, 0), asked(0, 0)])
        self.check(world, EMPTY, 0, 10, 60)
        self.check(world_of([capped([("flat", 24, 64)])], [asked(0, 0)]), EMPTY, 0, 10, 60)
        book = book_with([(0, 10, 25)])
        self.check(world, book, 0, 33, 35)
        self.check(world, book, 1, 10, 35)
        self.check(world, book, 0, 34, 60)

    def test_bound_by_a_cap_that_goes_by_weight(self):
        world = world_of([capped([("kilo", 24, 1, 2)])], [asked(0, 0)])
        self.check(world, EMPTY, 0, 10, 0)
        weights = [(0, 5, 61), (0, 20, 21)]
        self.check(world, book_with([], weights), 0, 4, 0)
        self.check(world, book_with([], weights), 0, 5, 30)
        self.check(world, book_with([], weights), 0, 19, 30)
        self.check(world, book_with([], weights), 0, 20, 10)

    def test_bound_by_the_narrowest_of_several(self):
        world = world_of([capped([("flat", 24, 60), ("ever", 40), ("flat", 3, 20)])], [asked(0, 0)])
        self.check(world, EMPTY, 0, 10, 20)
        self.check(world, book_with([(0, 10, 20)]), 0, 12, 0)
        self.check(world, book_with([(0, 10, 20)]), 0, 13, 20)
        self.check(world, book_with([(0, 10, 20), (0, 40, 15)]), 0, 90, 5)

    def test_bound_by_a_later_giving(self):
        world = world_of([capped([("flat", 24, 60)])], [asked(0, 0)])
        book = book_with([(0, 40, 45)])
        self.check(world, book, 0, 16, 60)
        self.check(world, book, 0, 17, 15)
        self.check(world, book, 0, 39, 15)
        self.check(world, book, 0, 63, 15)
        self.check(world, book, 0, 64, 60)

    def test_bound_by_a_later_weight(self):
        world = world_of([capped([("kilo", 24, 1, 1)])], [asked(0, 0)])
        book = book_with([(0, 40, 20)], [(0, 0, 60), (0, 35, 30)])
        self.check(world, book, 0, 34, 10)
        self.check(world, book, 0, 16, 60)

    def test_shut_by_a_gap(self):
        world = world_of([capped([]), capped([])], [asked(0, 0), asked(0, 1)], [(0, 1, 5)])
        book = book_with([(1, 10, 5)])
        for hour, told in ((5, 100), (6, 0), (10, 0), (14, 0), (15, 100)):
            self.check(world, book, 0, hour, told)

    def test_0_where_a_giving_of_the_order_stands(self):
        world = world_of([capped([])], [asked(0, 0), asked(0, 0)])
        book = book_with([(0, 10, 5)])
        self.check(world, book, 0, 10, 0)
        self.check(world, book, 0, 11, 100)
        self.check(world, book, 1, 10, 100)

    def test_0_where_none_can_be_given(self):
        self.check(world_of([capped([])], [asked(0, 0, begin=11)]), EMPTY, 0, 10, 0)
        self.check(world_of([capped([], young=11)], [asked(0, 0)]), EMPTY, 0, 10, 0)
        self.check(world_of([capped([("ever", 4)])], [asked(0, 0)]), EMPTY, 0, 10, 0)
        dues = world_of([capped([])], [due(0, 0, (10, 9, 2, 1, 1))])
        self.check(dues, EMPTY, 0, 8, 0)
        self.check(dues, EMPTY, 0, 9, 100)
        self.check(dues, book_with([(0, 11, 5)]), 0, 9, 0)

    def test_the_rule_s_dose_is_not_looked_at(self):
        order = (0, 0, ("down", 1, 7, 30), ("due", 10, 9, 2, 1, 1), ((1, 1, 1000),))
        self.check(world_of([capped([])], [order]), EMPTY, 0, 10, 30)
        self.check(world_of([capped([])], [order]), EMPTY, 0, 19, 30)


class Wait(unittest.TestCase):

    def check(self, world, book, order, amount, hour, last, told):
        with self.subTest(order=order, amount=amount, hour=hour, last=last):
            self.assertEqual(faults(world, book), [])
            answer = wait(world, book, order, amount, hour, last)
            self.assertEqual(answer, told)
            self.assertIs(type(answer), type(told))

    def check_from(self, world, book, order, amount, hour, told):
        """The answer for a last hour far off, at the answer, and one hour ahead of it."""
        self.check(world, book, order, amount, hour, GREAT, told)
        self.check(world, book, order, amount, hour, told, told)
        self.check(world, book, order, amount, hour, told - 1, None)

    def test_at_the_first_hour(self):
        world = world_of([capped([])], [asked(0, 0)])
        self.check_from(world, EMPTY, 0, 5, 7, 7)
        self.check_from(world, EMPTY, 0, 100, 0, 0)
        self.check(world, EMPTY, 0, 5, GREAT, GREAT, GREAT)

    def test_last_less_than_the_first(self):
        world = world_of([capped([])], [asked(0, 0)])
        self.check(world, EMPTY, 0, 5, 7, 6, None)
        self.check(world, EMPTY, 0, 5, GREAT, 0, None)

    def test_at_the_last_hour(self):
        world = world_of([capped([])], [asked(0, 0, begin=50)])
        self.check(world, EMPTY, 0, 5, 7, 50, 50)
        self.check(world, EMPTY, 0, 5, 7, 49, None)

    def test_amounts_that_can_not_be(self):
        world = world_of([capped([])], [asked(0, 0, 50)])
        for amount in (0, -5, -GREAT, 1, 4, 7, 49, 51, 55, GREAT):
            self.check(world, EMPTY, 0, amount, 0, GREAT, None)
        for amount in (5, 50):
            self.check(world, EMPTY, 0, amount, 0, GREAT, 0)

    def test_begin_of_an_asked_order(self):
        world = world_of([capped([])], [asked(0, 0, begin=50)])
        self.check_from(world, EMPTY, 0, 5, 7, 50)
        self.check_from(world, EMPTY, 0, 5, 49, 50)
        self.check_from(world, EMPTY, 0, 5, 51, 51)

    def test_spans_of_dues(self):
        world = world_of([capped([])], [due(0, 0, (8, 24, 3, 2, 3))])
        for hour, told in ((0, 6), (5, 6), (6, 6), (8, 8), (11, 11), (12, 30), (29, 30), (35, 35), (36, 54), (59, 59)):
            self.check_from(world, EMPTY, 0, 5, hour, told)
        self.check(world, EMPTY, 0, 5, 60, GREAT, None)

    def test_spans_that_are_given(self):
        world = world_of([capped([])], [due(0, 0, (8, 24, 3, 2, 3))])
        self.check_from(world, book_with([(0, 8, 5)]), 0, 5, 0, 30)
        self.check_from(world, book_with([(0, 11, 5)]), 0, 5, 6, 30)
        self.check_from(world, book_with([(0, 8, 5), (0, 30, 5)]), 0, 5, 0, 54)
        self.check(world, book_with([(0, 8, 5), (0, 30, 5), (0, 54, 5)]), 0, 5, 0, GREAT, None)

    def test_spans_without_an_hour_between(self):
        world = world_of([capped([])], [due(0, 0, (4, 10, 3, 4, 5))])
        self.check_from(world, book_with([(0, 5, 5)]), 0, 5, 0, 10)
        self.check_from(world, book_with([(0, 15, 5)]), 0, 5, 9, 9)
        self.check_from(world, book_with([(0, 15, 5)]), 0, 5, 10, 20)

    def test_where_a_giving_of_the_order_stands(self):
        world = world_of([capped([])], [asked(0, 0), asked(0, 0)])
        book = book_with([(0, 10, 5), (0, 11, 5), (0, 13, 5)])
        self.check_from(world, book, 0, 5, 9, 9)
        self.check_from(world, book, 0, 5, 10, 12)
        self.check_from(world, book, 0, 5, 13, 14)
        self.check_from(world, book, 1, 5, 10, 10)

    def test_behind_a_gap(self):
        world = world_of([capped([]), capped([])], [asked(0, 0), asked(0, 1), asked(1, 1)], [(0, 1, 5)])
        book = book_with([(1, 10, 5), (2, 16, 5)])
        for hour, told in ((0, 0), (5, 5), (6, 15), (10, 15), (14, 15), (15, 15), (16, 16)):
            self.check_from(world, book, 0, 5, hour, told)
        self.check_from(world, book_with([(1, 10, 5), (1, 19, 5)]), 0, 5, 6, 24)
        self.check_from(world, book_with([(1, 10, 5), (1, 20, 5)]), 0, 5, 6, 15)

    def test_behind_a_gap_of_one_stuff(self):
        world = world_of([capped([])], [asked(0, 0), asked(0, 0)], [(0, 0, 5)])
        book = book_with([(1, 10, 5), (0, 20, 5)])
        for hour, told in ((5, 5), (6, 15), (15, 15), (16, 25)):
            self.check_from(world, book, 0, 5, hour, told)

    def test_an_age(self):
        world = world_of([capped([], young=24)], [asked(0, 0), asked(1, 0)], guests=(("ann", 0), ("bob", 100)))
        self.check_from(world, EMPTY, 0, 5, 0, 24)
        self.check_from(world, EMPTY, 1, 5, 0, 124)
        self.check_from(world, EMPTY, 1, 5, 125, 125)
        far = world_of([capped([], young=GREAT)], [asked(0, 0)], guests=(("ann", 1),))
        self.check(far, EMPTY, 0, 5, 0, GREAT, None)

    def test_a_weight(self):
        world = world_of([capped([("kilo", 24, 1, 1)])], [asked(0, 0)])
        self.check(world, EMPTY, 0, 5, 0, GREAT, None)
        self.check(world, book_with([], [(1, 3, 60)]), 0, 5, 0, GREAT, None)
        self.check_from(world, book_with([], [(0, 7, 60)]), 0, 5, 0, 7)
        self.check_from(world, book_with([], [(0, 7, 4), (0, 9, 60), (1, 0, 60)]), 0, 5, 0, 9)
        self.check_from(world, book_with([], [(0, 7, 60), (0, 9, 4), (0, 30, 5)]), 0, 5, 9, 30)

    def test_when_a_cap_s_hours_have_gone_by(self):
        world = world_of([capped([("flat", 24, 60)])], [asked(0, 0), asked(0, 0)])
        book = book_with([(0, 10, 40), (1, 20, 20)])
        self.check_from(world, book, 0, 5, 20, 34)
        self.check_from(world, book, 0, 40, 20, 34)
        self.check_from(world, book, 0, 45, 20, 44)
        self.check_from(world, book, 0, 60, 20, 44)
        self.check(world, book, 0, 65, 20, GREAT, None)

    def test_ahead_of_givings_that_stand(self):
        world = world_of([capped([("flat", 24, 60)])], [asked(0, 0)])
        book = book_with([(0, 50, 45)])
        self.check_from(world, book, 0, 20, 26, 26)
        self.check_from(world, book, 0, 20, 27, 74)
        self.check_from(world, book, 0, 15, 27, 27)
        self.check_from(world, book, 0, 15, 50, 51)

    def test_between_givings_that_stand(self):
        world = world_of([capped([("flat", 10, 60)])], [asked(0, 0)])
        book = book_with([(0, 10, 60), (0, 31, 60), (0, 50, 60)])
        self.check_from(world, book, 0, 5, 1, 20)
        self.check_from(world, book, 0, 5, 22, 60)
        self.check_from(world, book, 0, 5, 20, 20)
        self.check_from(world, book, 0, 5, 21, 21)
        self.check_from(world, book, 0, 60, 0, 0)

    def test_ever(self):
        world = world_of([capped([("ever", 60)])], [asked(0, 0)])
        self.check(world, book_with([(0, 50, 45)]), 0, 20, 0, GREAT, None)
        self.check(world, book_with([(0, 50, 45)]), 0, 15, 0, GREAT, 0)
        self.check(world, book_with([(0, 50, 45)]), 0, 15, 50, GREAT, 51)

    def test_a_weight_that_grows_and_sinks(self):
        world = world_of([capped([("kilo", 10, 1, 1)])], [asked(0, 0)])
        weights = [(0, 0, 20), (0, 30, 50), (0, 40, 10)]
        self.check_from(world, book_with([], weights), 0, 50, 0, 30)
        self.check(world, book_with([], weights), 0, 50, 40, GREAT, None)
        book = book_with([(0, 41, 10)], weights)
        self.check_from(world, book, 0, 30, 0, 30)
        self.check_from(world, book, 0, 30, 31, 31)
        self.check(world, book, 0, 30, 32, GREAT, None)
        self.check_from(world, book, 0, 10, 32, 51)

    def test_hours_as_far_apart_as_can_be(self):
        def too_late(number, frame):
            raise AssertionError("it goes hour by hour")
        before = signal.signal(signal.SIGALRM, too_late)
        signal.alarm(60)
        try:
            caps = [("flat", GREAT, 60), ("kilo", GREAT, 1, 1), ("flat", 500000000, 100)]
            world = world_of([capped(caps)], [asked(0, 0), asked(0, 0, begin=GREAT)], [(0, 0, GREAT - 1)])
            self.check(world, EMPTY, 0, 5, 0, GREAT, None)
            book = book_with([(0, 1, 60)], [(0, 0, 60)])
            self.check(world, book, 0, 5, 0, GREAT, None)
            self.check(world, book_with([(0, 0, 60)], [(0, 0, 60)]), 0, 5, 0, GREAT, GREAT)
            self.check(world, book_with([(0, 0, 60)], [(0, 0, 60)]), 0, 5, 0, GREAT - 1, None)
            self.check(world, book_with([], [(0, GREAT, 60)]), 1, 5, 0, GREAT, GREAT)
            dues = world_of([capped([])], [due(0, 0, (GREAT, GREAT, 60, 5, 5))])
            self.check(dues, EMPTY, 0, 5, 0, GREAT, GREAT - 5)
        finally:
            signal.alarm(0)
            signal.signal(signal.SIGALRM, before)

    def test_a_full_book(self):
        caps = [("flat", 50, 500), ("kilo", 1000, 5, 1), ("ever", 10 ** 6), ("kilo", 10, 1, 10)]
        world = world_of([capped(caps, (1,))], [asked(0, 0, 600) for turn in range(12)], [(0, 0, 2)])
        givings = [(turn % 12, 100 + 5 * turn, 40) for turn in range(200)]
        weights = [(0, 100 + 5 * turn, 10 ** 6 - turn) for turn in range(200)]
        book = book_with(givings, weights)
        # Each 50 hours have ten givings, 400 in all.
        self.check_from(world, book, 0, 100, 99, 102)
        self.check_from(world, book, 0, 105, 99, 1100)
        self.check_from(world, book, 0, 500, 99, 1095 + 50)
        self.check(world, book, 0, 501, 99, GREAT, None)


def some_stuff(chance):
    caps = [chance.choice((("flat", chance.randint(1, 20), chance.randint(4, 30)),
                           ("kilo", chance.randint(1, 20), chance.randint(1, 9), chance.randint(1, 5)),
                           ("ever", chance.randint(10, 60)))) for turn in range(chance.randint(0, 3))]
    return ((chance.choice((1, 2, 3)),), tuple(caps), chance.choice((0, 0, 5, 12)))


def some_order(chance, guests, stuffs):
    guest, stuff, most = chance.randrange(guests), chance.randrange(stuffs), chance.randint(3, 12)
    if chance.random() < 0.6:
        return asked(guest, stuff, most, chance.randint(0, 8))
    every = chance.randint(1, 12)
    early = chance.randint(0, every - 1)
    return due(guest, stuff, (chance.randint(early, 15), every, chance.randint(1, 6), early,
                              chance.randint(0, every - 1 - early)), most)


def some_world(chance):
    guests = [("ann", chance.randint(0, 6)), ("bob", chance.randint(0, 6))][:chance.randint(1, 2)]
    stuffs = [some_stuff(chance) for turn in range(chance.randint(1, 3))]
    pairs = [(one, two) for one in range(len(stuffs)) for two in range(one, len(stuffs))]
    bars = [pair + (chance.randint(1, 6),) for pair in chance.sample(pairs, chance.randint(0, len(pairs)))]
    orders = [some_order(chance, len(guests), len(stuffs)) for turn in range(chance.randint(1, 5))]
    return world_of(stuffs, orders, bars, guests)


def some_book(chance, world):
    """A book without faults: givings that are tried one after another, and those that fit."""
    weights = {(chance.randrange(len(world[0])), chance.randint(0, 40)): chance.randint(1, 20)
               for turn in range(chance.randint(0, 6))}
    book = book_with([], [key + (weight,) for key, weight in weights.items()])
    for turn in range(chance.randint(0, 20)):
        order, hour = chance.randrange(len(world[3])), chance.randint(0, 40)
        amount = world[1][world[3][order][2]][1][0] * chance.randint(1, 6)
        if fits(world, book, order, amount, hour):
            book = with_giving(book, order, hour, amount)
    return book


class ByTheWords(unittest.TestCase):

    def test_room(self):
        chance = random.Random(27)
        seen = set()
        for turn in range(250):
            world = some_world(chance)
            book = some_book(chance, world)
            for number in range(12):
                order, hour = chance.randrange(len(world[3])), chance.randint(0, 45)
                told = room_by_the_words(world, book, order, hour)
                seen.add(told)
                self.assertEqual(room(world, book, order, hour), told, (world, book, order, hour))
        self.assertGreater(len(seen), 8)

    def test_wait(self):
        chance = random.Random(28)
        later = 0
        for turn in range(500):
            world = some_world(chance)
            book = some_book(chance, world)
            for number in range(8):
                order, hour = chance.randrange(len(world[3])), chance.randint(0, 45)
                last = hour + chance.randint(-3, 50)
                amount = world[1][world[3][order][2]][1][0] * chance.randint(1, 5) - chance.choice((0, 0, 0, 0, 1))
                told = wait_by_the_words(world, book, order, amount, hour, last)
                later += told is not None and told > hour
                self.assertEqual(wait(world, book, order, amount, hour, last), told, (world, book, order, amount, hour))
        self.assertGreater(later, 400)

    def test_what_is_handed_in_stays(self):
        chance = random.Random(29)
        world = some_world(chance)
        book = some_book(chance, world)
        before = repr((world, book))
        answers = [(room(world, book, 0, hour), wait(world, book, 0, 6, hour, 90)) for hour in range(40)]
        again = [(room(world, book, 0, hour), wait(world, book, 0, 6, hour, 90)) for hour in range(40)]
        self.assertEqual(again, answers)
        self.assertEqual(repr((world, book)), before)


if __name__ == "__main__":
    unittest.main()
