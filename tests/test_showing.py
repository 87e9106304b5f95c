"""Points 11, 12 and 13: the one text of a world; point 2 for what is told."""

import random
import unittest

from dosehouse.reading import read
from dosehouse.showing import shown

GREAT = 10 ** 9

FULL_WORLD = (
    (("ann", 0), ("bob", GREAT)),
    (
        ("milk", (5, 10, 20), (("flat", 24, 400), ("kilo", 48, 30, 10), ("ever", 9000), ("flat", 24, 400)), 72),
        ("honey", (1,), (), 0),
        ("ann", (250,), (), 1),
        ("salt", (3,), (("ever", 1),), 0),
    ),
    ((0, 2, GREAT), (0, 0, 4), (1, 2, 1)),
    (
        ("night", 0, 0, ("near", 15, 10, 100), ("due", 8, 24, 10, 2, 3), ((1, 1, 2), (4, 999, 1000), (9, 1, 1))),
        ("day", 1, 1, ("up", 7, 0, 2000), ("asked", 12), ()),
        ("ann", 0, 2, ("down", 1, GREAT, 250), ("due", 0, 1, 1, 0, 0), ()),
    ),
)

FULL_LINES = [
    "guest ann 0",
    "guest bob 1000000000",
    "stuff milk 5 10 20",
    "cap flat 24 400",
    "cap kilo 48 30 10",
    "cap ever 9000",
    "cap flat 24 400",
    "young 72",
    "stuff honey 1",
    "stuff ann 250",
    "young 1",
    "stuff salt 3",
    "cap ever 1",
    "bar milk ann 1000000000",
    "bar milk milk 4",
    "bar honey ann 1",
    "order night ann milk",
    "dose near 15 10 100",
    "due 8 24 10 2 3",
    "taper 1 1 2",
    "taper 4 999 1000",
    "taper 9 1 1",
    "order day bob honey",
    "dose up 7 0 2000",
    "asked 12",
    "order ann ann ann",
    "dose down 1 1000000000 250",
    "due 0 1 1 0 0",
]

BOUNDS_WORLD = (
    (("abcdefgh", GREAT), ("z", 0)),
    (
        ("a", (500000, GREAT), (("flat", GREAT, GREAT), ("kilo", GREAT, GREAT, GREAT), ("ever", GREAT),
                                ("kilo", 1, 1, 1)), GREAT),
        ("b", (1, 2, 3, 4, 5, 6, 7, 2000), (("ever", 1), ("flat", 1, 1)), 1),
    ),
    ((0, 0, GREAT), (0, 1, 1)),
    (
        ("p", 1, 0, ("down", GREAT, GREAT, GREAT), ("due", GREAT, GREAT, 60, GREAT - 1, 0), ((1, 1, 1), (59, 1, 1000))),
        ("q", 0, 1, ("up", 1, 0, 1), ("asked", GREAT), ()),
        ("r", 0, 1, ("near", 1, 1, 2000), ("due", 0, GREAT, 1, 0, GREAT - 1), ()),
    ),
)

BOUNDS_LINES = [
    "guest abcdefgh 1000000000",
    "guest z 0",
    "stuff a 500000 1000000000",
    "cap flat 1000000000 1000000000",
    "cap kilo 1000000000 1000000000 1000000000",
    "cap ever 1000000000",
    "cap kilo 1 1 1",
    "young 1000000000",
    "stuff b 1 2 3 4 5 6 7 2000",
    "cap ever 1",
    "cap flat 1 1",
    "young 1",
    "bar a a 1000000000",
    "bar a b 1",
    "order p z a",
    "dose down 1000000000 1000000000 1000000000",
    "due 1000000000 1000000000 60 999999999 0",
    "taper 1 1 1",
    "taper 59 1 1000",
    "order q abcdefgh b",
    "dose up 1 0 1",
    "asked 1000000000",
    "order r abcdefgh b",
    "dose near 1 1 2000",
    "due 0 1000000000 1 0 999999999",
]


def names(chance, many):
    """So many names, no two alike."""
    found = []
    while len(found) < many:
        name = "".join(chance.choice("abcxyz") for turn in range(chance.randint(1, 8)))
        if name not in found:
            found.append(name)
    return found


def number(chance, low, high):
    return chance.choice((low, high, chance.randint(low, high), min(high, low + chance.randint(0, 9))))


def some_cap(chance):
    kind, many = chance.choice((("flat", 2), ("kilo", 3), ("ever", 1)))
    return (kind,) + tuple(number(chance, 1, GREAT) for turn in range(many))


def some_stuff(chance, name):
    part = number(chance, 1, 500000)
    more = sorted(chance.sample(range(2, 2001), chance.randint(0, 7)))
    caps = tuple(some_cap(chance) for turn in range(chance.randint(0, 4)))
    return (name, (part,) + tuple(part * times for times in more), caps, chance.choice((0, number(chance, 1, GREAT))))


def some_order(chance, name, guests, stuffs):
    stuff = chance.randrange(len(stuffs))
    part = stuffs[stuff][1][0]
    rule = (chance.choice(("down", "up", "near")), number(chance, 1, GREAT), number(chance, 0, GREAT),
            number(chance, part, min(GREAT, 2000 * part)))
    if chance.random() < 0.4:
        return (name, chance.randrange(len(guests)), stuff, rule, ("asked", number(chance, 0, GREAT)), ())
    every = number(chance, 1, GREAT)
    early = number(chance, 0, every - 1)
    late = number(chance, 0, every - 1 - early)
    many = number(chance, 1, 60)
    dues = ("due", number(chance, early, GREAT), every, many, early, late)
    tapers = []
    for k in sorted(chance.sample(range(1, many), min(many - 1, chance.randint(0, 6)))):
        den = number(chance, 1, 1000)
        tapers.append((k, number(chance, 1, den), den))
    return (name, chance.randrange(len(guests)), stuff, rule, dues, tuple(tapers))


def some_world(chance):
    guests = tuple((name, number(chance, 0, GREAT)) for name in names(chance, chance.randint(0, 6)))
    stuffs = tuple(some_stuff(chance, name) for name in names(chance, chance.randint(0, 6)))
    pairs = [(one, two) for one in range(len(stuffs)) for two in range(one, len(stuffs))]
    picked = chance.sample(pairs, min(len(pairs), chance.randint(0, 12)))
    bars = tuple((one, two, number(chance, 1, GREAT)) for one, two in picked)
    many = chance.randint(0, 12) if guests and stuffs else 0
    orders = tuple(some_order(chance, name, guests, stuffs) for name in names(chance, many))
    return (guests, stuffs, bars, orders)


class Shown(unittest.TestCase):

    def check(self, world, lines):
        with self.subTest(world=world):
            told = shown(world)
            self.assertEqual(told, lines)
            self.assertIs(type(told), list)
            for line in told:
                self.assertIs(type(line), str)
            self.assertEqual(read(told), world)
            self.assertEqual(shown(read(lines)), lines)

    def test_the_empty_world(self):
        self.check(((), (), (), ()), [])

    def test_each_form_of_line(self):
        self.check(FULL_WORLD, FULL_LINES)

    def test_numbers_at_their_bounds(self):
        self.check(BOUNDS_WORLD, BOUNDS_LINES)

    def test_guests_alone(self):
        self.check(((("bob", 3), ("ann", 10)), (), (), ()), ["guest bob 3", "guest ann 10"])

    def test_a_stuff_with_and_without_caps_and_young(self):
        for caps, cap_lines in (((), []), ((("ever", 5),), ["cap ever 5"]),
                                ((("kilo", 1, 2, 3), ("flat", 4, 5)), ["cap kilo 1 2 3", "cap flat 4 5"])):
            for young, young_lines in ((0, []), (1, ["young 1"]), (30, ["young 30"])):
                self.check(((), (("oil", (2, 4), caps, young),), (), ()),
                           ["stuff oil 2 4"] + cap_lines + young_lines)

    def test_bars_stay_in_their_order(self):
        stuffs = (("b", (1,), (), 0), ("a", (1,), (), 0))
        self.check(((), stuffs, ((1, 1, 9), (0, 1, 8), (0, 0, 7)), ()),
                   ["stuff b 1", "stuff a 1", "bar a a 9", "bar b a 8", "bar b b 7"])

    def test_an_order_with_and_without_tapers(self):
        for tapers, lines in (((), []), (((1, 1, 2),), ["taper 1 1 2"]),
                              (((1, 1, 2), (2, 1, 3)), ["taper 1 1 2", "taper 2 1 3"])):
            self.check(((("g", 0),), (("s", (1,), (), 0),), (),
                        (("o", 0, 0, ("up", 1, 0, 1), ("due", 0, 5, 3, 0, 4), tapers),)),
                       ["guest g 0", "stuff s 1", "order o g s", "dose up 1 0 1", "due 0 5 3 0 4"] + lines)

    def test_a_told_list_is_the_asker_s_own(self):
        told = shown(FULL_WORLD)
        told[0] = "guest nobody 1"
        told.append("bar")
        self.assertEqual(shown(FULL_WORLD), FULL_LINES)
        shown(FULL_WORLD).clear()
        self.assertEqual(len(told), len(FULL_LINES) + 1)
        self.assertEqual(told[0], "guest nobody 1")

    def test_read_of_shown_is_the_world(self):
        chance = random.Random(11)
        for turn in range(300):
            world = some_world(chance)
            with self.subTest(world=world):
                lines = shown(world)
                self.assertEqual(read(lines), world)
                self.assertEqual(shown(read(lines)), lines)
                for line in lines:
                    self.assertEqual(line, " ".join(line.split()))


if __name__ == "__main__":
    unittest.main()
