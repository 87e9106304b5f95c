"""Point 4: what the document promises over the whole program."""

import random
import unittest

from dosehouse.books import with_giving
from dosehouse.desk import Desk
from dosehouse.dues import span, state
from dosehouse.errors import HouseError, NoEntry, NoLine, NoText, NoPieces, Torn, Twice, Unsafe
from dosehouse.faults import faults
from dosehouse.house import House
from dosehouse.logs import alarms, book_of, merged
from dosehouse.pieces import fewest, prices
from dosehouse.reading import read
from dosehouse.room import room, wait
from dosehouse.rounds import missed_dues, next_change, open_dues, pieces_for, round_at
from dosehouse.showing import shown

LINES = [
    "guest ann 0",
    "guest bob 3",
    "guest cleo 10",
    "stuff milk 5 10 25",
    "cap kilo 24 1 1",
    "cap flat 48 90",
    "young 2",
    "stuff honey 2 6 8",
    "cap ever 60",
    "cap flat 6 16",
    "stuff salt 1",
    "bar milk honey 2",
    "bar honey honey 3",
    "bar milk salt 4",
    "order am ann milk",
    "dose near 2 3 45",
    "due 6 12 8 2 3",
    "taper 2 1 2",
    "taper 5 1 4",
    "order ah ann honey",
    "dose up 7 0 12",
    "asked 4",
    "order ax ann salt",
    "dose down 9 10 20",
    "due 8 24 4 5 6",
    "order bm bob milk",
    "dose down 1 2 60",
    "due 9 10 6 1 1",
    "order bh bob honey",
    "dose near 5 0 8",
    "due 7 8 9 3 4",
    "order cm cleo milk",
    "dose up 11 0 30",
    "asked 0",
    "order cn cleo milk",
    "dose up 5 7 30",
    "due 15 9 5 4 4",
]
WORLD = read(LINES)
GUESTS = range(3)
ORDERS = range(7)
LAST = 70


def some_deed(chance):
    word = chance.choice(("weigh", "unweigh") + ("give",) * 8 + ("strike", "amend", "amend", "move", "move"))
    hour = chance.randint(0, LAST)
    if word == "weigh":
        return (word, chance.choice(GUESTS), hour, chance.choice((5, 20, 30, 45, 60, 61)))
    if word == "unweigh":
        return (word, chance.choice(GUESTS), hour)
    if word == "strike":
        return (word, chance.choice(ORDERS), hour)
    if word == "move":
        return (word, chance.choice(ORDERS), hour, chance.randint(0, LAST))
    return (word, chance.choice(ORDERS), hour, chance.choice((-5, 0, 1, 2, 5, 5, 6, 8, 10, 10, 12, 15, 20, 30, 60)))


def fitting(chance, house, deed):
    """The deed, most often put to an entry that stands where it asks for one."""
    rows = house.book()[0 if "weigh" in deed[0] else 1]
    if deed[0] in ("unweigh", "strike", "amend", "move") and rows and chance.random() < 0.8:
        return (deed[0],) + chance.choice(rows)[:2] + deed[3:]
    return deed


def some_house(chance, many):
    """A house behind a row of deeds, some of them refused."""
    house = House(WORLD)
    for guest in GUESTS:
        house.weigh(guest, chance.randint(0, 5), chance.choice((45, 60)))
    for turn in range(many):
        deed = fitting(chance, house, some_deed(chance))
        try:
            getattr(house, deed[0])(*deed[1:])
        except HouseError:
            pass
    return house


class Promise(unittest.TestCase):
    """Behind any row of deeds, straight from the words, without asking for faults."""

    def check_caps(self, book):
        weights, givings = book
        for guest in GUESTS:
            for stuff in range(3):
                marks = [(hour, amount) for order, hour, amount in givings if WORLD[3][order][1:3] == (guest, stuff)]
                for cap in WORLD[1][stuff][2]:
                    long = cap[1] if cap[0] != "ever" else LAST + 1
                    for begin in range(-long, LAST + 1):
                        within = [mark for mark in marks if begin <= mark[0] < begin + long]
                        if within:
                            at = max(within)[0]
                            top = cap[-1]
                            if cap[0] == "kilo":
                                weight = max(row for row in weights if row[0] == guest and row[1] <= at)[2]
                                top = weight * cap[2] // cap[3]
                            self.assertLessEqual(sum(amount for hour, amount in within), top)

    def check_gaps(self, givings):
        for one in givings:
            for two in givings:
                order, other = WORLD[3][one[0]], WORLD[3][two[0]]
                if one != two and order[1] == other[1]:
                    for bar in WORLD[2]:
                        if bar[:2] in ((order[2], other[2]), (other[2], order[2])):
                            self.assertGreaterEqual(abs(one[1] - two[1]), bar[2])

    def check_each(self, givings):
        spans = []
        for number, hour, amount in givings:
            name, guest, stuff, rule, dues, tapers = WORLD[3][number]
            self.assertGreaterEqual(hour, WORLD[0][guest][1] + WORLD[1][stuff][3])
            self.assertIn(amount, range(WORLD[1][stuff][1][0], rule[3] + 1, WORLD[1][stuff][1][0]))
            if dues[0] == "asked":
                self.assertGreaterEqual(hour, dues[1])
            else:
                first = [k for k in range(dues[3]) if hour in range(dues[1] + k * dues[2] - dues[4],
                                                                   dues[1] + k * dues[2] + dues[5] + 1)]
                self.assertEqual(len(first), 1)
                spans.append((number, first[0]))
        self.assertEqual(len(spans), len(set(spans)))

    def test_behind_any_row_of_deeds(self):
        chance = random.Random(4)
        seen = 0
        for turn in range(12):
            house = some_house(chance, 250)
            book = house.book()
            seen += len(book[1])
            self.check_caps(book)
            self.check_gaps(book[1])
            self.check_each(book[1])
            self.assertEqual(faults(WORLD, book), [])
        self.assertGreater(seen, 100)

    def test_let_by_if_and_only_if_the_book_has_no_fault(self):
        chance = random.Random(5)
        let_by = refused = 0
        for turn in range(6):
            house = some_house(chance, 60)
            for number in range(120):
                before = house.book()
                order, hour = chance.choice(ORDERS), chance.randint(0, LAST)
                amount = chance.choice((0, 2, 5, 6, 8, 10, 15))
                if (order, hour) in [row[:2] for row in before[1]]:
                    continue
                told = faults(WORLD, with_giving(before, order, hour, amount))
                try:
                    house.give(order, hour, amount)
                except Unsafe as error:
                    refused += 1
                    self.assertEqual(error.faults, told)
                    self.assertNotEqual(told, [])
                    self.assertEqual(house.book(), before)
                else:
                    let_by += 1
                    self.assertEqual(told, [])
                    self.assertEqual(house.book(), with_giving(before, order, hour, amount))
        self.assertGreater(min(let_by, refused), 20)

    def test_the_book_hangs_on_what_stands_in_it_alone(self):
        chance = random.Random(6)
        for turn in range(10):
            book = some_house(chance, 150).book()
            for again in range(5):
                house = House(WORLD)
                for row in chance.sample(book[0], len(book[0])):
                    house.weigh(*row)
                for row in chance.sample(book[1], len(book[1])):
                    house.give(*row)
                self.assertEqual(house.book(), book)
                for hour in (0, 9, 33):
                    self.assertEqual(round_at(WORLD, house.book(), hour), round_at(WORLD, book, hour))

    def test_logs_of_several_hands_make_one_book(self):
        chance = random.Random(7)
        for turn in range(15):
            book = some_house(chance, 120).book()
            log = [((chance.choice(("a", "ab", "b")), number), ("weigh",) + row)
                   for number, row in enumerate(book[0], 1)]
            log += [((chance.choice(("a", "ab", "b")), number), ("give",) + row)
                    for number, row in enumerate(book[1], 500)]
            self.assertEqual(book_of(log), book)
            self.assertEqual(alarms(WORLD, log), [])
            for again in range(4):
                parts = [chance.sample(log, chance.randint(0, len(log))) for hand in range(3)] + [log]
                chance.shuffle(parts)
                whole = []
                for part in parts:
                    whole = merged(part, whole) if chance.random() < 0.5 else merged(whole, part)
                self.assertEqual(whole, sorted(log))
                self.assertEqual(book_of(whole), book)


class RoundsOfAHouse(unittest.TestCase):

    def test_a_round_s_list_can_be_given_as_it_stands(self):
        chance = random.Random(8)
        taken = held = 0
        for turn in range(25):
            house = some_house(chance, 15)
            for hour in sorted(chance.sample(range(LAST), 12)):
                dues = open_dues(WORLD, house.book(), hour)
                takes, helds = round_at(WORLD, house.book(), hour)
                self.assertEqual(sorted([row[:2] for row in takes + helds]), sorted(due[1:] for due in dues))
                for order, k, amount in takes:
                    self.assertGreaterEqual(room(WORLD, house.book(), order, hour), amount)
                    self.assertEqual(wait(WORLD, house.book(), order, amount, hour, hour), hour)
                    self.assertLessEqual(amount, WORLD[3][order][3][3])
                    self.assertIsNone(house.give(order, hour, amount))
                    taken += 1
                held += len(helds)
                self.assertEqual(open_dues(WORLD, house.book(), hour), [due for due in dues if due[1:] in
                                                                        [row[:2] for row in helds]])
        self.assertGreater(min(taken, held), 50)

    def test_each_due_is_ahead_open_given_or_missed(self):
        chance = random.Random(9)
        for turn in range(8):
            book = some_house(chance, 80).book()
            for hour in range(0, LAST, 5):
                found = {"ahead": 0, "open": 0, "given": 0, "missed": 0}
                for number, order in enumerate(WORLD[3]):
                    hours = [row[1] for row in book[1] if row[0] == number]
                    for k in range(order[4][3] if order[4][0] == "due" else 0):
                        found[state(order, hours, k, hour)] += 1
                        self.assertLessEqual(span(order, k)[0], span(order, k)[1])
                self.assertEqual(found["open"], len(open_dues(WORLD, book, hour)))
                self.assertEqual(found["missed"], len(missed_dues(WORLD, book, hour)))
                change = next_change(WORLD, book, hour)
                for at in range(hour, (change or LAST + 60) - 1):
                    self.assertEqual(open_dues(WORLD, book, at), open_dues(WORLD, book, hour))

    def test_pieces_are_the_fewest(self):
        for number, order in enumerate(WORLD[3]):
            sizes = WORLD[1][order[2]][1]
            for amount in range(0, order[3][3] + 1, sizes[0]):
                pieces = pieces_for(WORLD, number, amount)
                self.assertEqual(sum(many * size for many, size in zip(pieces, sizes)), amount)
                self.assertEqual(sum(pieces), prices(sizes, amount)[amount])


class RoomOfAHouse(unittest.TestCase):

    def test_what_there_is_room_for_is_let_by_and_no_more(self):
        chance = random.Random(10)
        for turn in range(10):
            house = some_house(chance, 60)
            for number in range(20):
                order, hour = chance.choice(ORDERS), chance.randint(0, LAST)
                if (order, hour) in [row[:2] for row in house.book()[1]]:
                    self.assertEqual(room(WORLD, house.book(), order, hour), 0)
                    continue
                part = WORLD[1][WORLD[3][order][2]][1][0]
                much = room(WORLD, house.book(), order, hour)
                self.assertRaises(Unsafe, house.give, order, hour, much + part)
                if much > 0:
                    house.give(order, hour, much)
                    house.strike(order, hour)

    def test_waiting_ends_with_a_giving_that_is_let_by(self):
        chance = random.Random(11)
        found = 0
        for turn in range(12):
            house = some_house(chance, 60)
            for number in range(15):
                order, hour = chance.choice(ORDERS), chance.randint(0, LAST)
                amount = WORLD[1][WORLD[3][order][2]][1][0] * chance.randint(1, 3)
                at = wait(WORLD, house.book(), order, amount, hour, LAST + 60)
                for early in range(hour, LAST + 61 if at is None else at):
                    self.assertRaises((Unsafe, Twice), house.give, order, early, amount)
                if at is not None:
                    found += at > hour
                    house.give(order, at, amount)
        self.assertGreater(found, 20)


class DeskOfAHouse(unittest.TestCase):

    def test_a_desk_says_what_its_house_does(self):
        chance = random.Random(12)
        for turn in range(6):
            desk, house = Desk(LINES), House(WORLD)
            for number in range(120):
                deed = fitting(chance, house, some_deed(chance))
                if min(deed[1:]) < 0:
                    continue
                rows = WORLD[0] if "weigh" in deed[0] else WORLD[3]
                line = " ".join([deed[0], rows[deed[1]][0]] + [str(value) for value in deed[2:]])
                try:
                    getattr(house, deed[0])(*deed[1:])
                except Unsafe as error:
                    answer = desk.say(line)
                    self.assertEqual((answer[0], len(answer)), ("no", 1 + len(error.faults)))
                    self.assertEqual([row.split(" ")[0] for row in answer[1:]], [fault[0] for fault in error.faults])
                except (Twice, NoEntry) as error:
                    with self.assertRaises(type(error)) as caught:
                        desk.say(line)
                    self.assertEqual(caught.exception.entry, error.entry)
                else:
                    self.assertEqual(desk.say(line), ["ok"])
            told = ["weight " + WORLD[0][row[0]][0] + f" {row[1]} {row[2]}" for row in house.book()[0]]
            told += ["given " + WORLD[3][row[0]][0] + f" {row[1]} {row[2]}" for row in house.book()[1]]
            self.assertEqual(desk.say("book"), told)
            self.assertEqual(desk.say("show"), LINES)


class Refusals(unittest.TestCase):

    def test_each_refusal_where_it_comes_from(self):
        house = House(WORLD)
        house.weigh(0, 0, 60)
        mark = ("a", 1)
        torn = [(mark, ("strike", mark)), (mark, ("amend", mark, 1))]
        for error, asked in (
                (NoText, lambda: read(["nothing"])), (NoText, lambda: Desk(["nothing"])),
                (NoPieces, lambda: fewest((2,), 3)), (Twice, lambda: house.weigh(0, 0, 60)),
                (NoEntry, lambda: house.strike(0, 0)), (Unsafe, lambda: house.give(0, 6, 1)),
                (Torn, lambda: merged(torn, [])), (NoLine, lambda: Desk(LINES).say("nothing"))):
            with self.subTest(error=error.__name__):
                with self.assertRaises(HouseError) as caught:
                    asked()
                self.assertIs(type(caught.exception), error)
        self.assertEqual(house.book(), (((0, 0, 60),), ()))

    def test_the_world_s_text_is_the_world_s(self):
        self.assertEqual(shown(WORLD), LINES)


if __name__ == "__main__":
    unittest.main()
