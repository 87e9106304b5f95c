"""Points 11, 12 and 13: worlds read from their text, and the place of what can't stand; point 2 for what is told."""

import unittest

from dosehouse.errors import HouseError, NoText
from dosehouse.reading import read

GREAT = 10 ** 9

FULL_LINES = [
    "guest ann 0",
    "guest bob 1000000000",
    "stuff milk 5 10 20",
    "cap flat 24 400",
    "cap kilo 48 30 10",
    "cap ever 9000",
    "cap flat 24 400",
    "young 72",
    "stuff honey 1",
    "stuff ann 250",
    "young 1",
    "bar milk milk 4",
    "bar milk ann 1000000000",
    "bar honey ann 1",
    "order night ann milk",
    "dose near 15 10 100",
    "due 8 24 10 2 3",
    "taper 1 1 2",
    "taper 4 999 1000",
    "taper 9 1 1",
    "order day bob honey",
    "dose up 7 0 2000",
    "asked 12",
    "order ann ann milk",
    "dose down 1 1000000000 5",
    "due 0 1 1 0 0",
]

FULL_WORLD = (
    (("ann", 0), ("bob", GREAT)),
    (
        ("milk", (5, 10, 20), (("flat", 24, 400), ("kilo", 48, 30, 10), ("ever", 9000), ("flat", 24, 400)), 72),
        ("honey", (1,), (), 0),
        ("ann", (250,), (), 1),
    ),
    ((0, 0, 4), (0, 2, GREAT), (1, 2, 1)),
    (
        ("night", 0, 0, ("near", 15, 10, 100), ("due", 8, 24, 10, 2, 3), ((1, 1, 2), (4, 999, 1000), (9, 1, 1))),
        ("day", 1, 1, ("up", 7, 0, 2000), ("asked", 12), ()),
        ("ann", 0, 0, ("down", 1, GREAT, 5), ("due", 0, 1, 1, 0, 0), ()),
    ),
)

# What the single lines below stand behind.
GUESTS = ["guest ann 0", "guest bob 5"]
STUFFS = GUESTS + ["stuff milk 5 10", "stuff honey 1", "stuff salt 3"]
ORDER = STUFFS + ["order night ann milk"]
DOSE = ORDER + ["dose near 15 10 100"]
DUE = DOSE + ["due 8 24 10 2 3"]
ENDED = ("order", "dose")


def kinds_of(value):
    """The kinds within a value, all the way down."""
    if isinstance(value, (list, tuple)):
        return {type(value)}.union(*[kinds_of(part) for part in value])
    return {type(value)}


class Reading(unittest.TestCase):

    def check_world(self, lines, world):
        with self.subTest(lines=lines):
            self.assertEqual(read(lines), world)

    def check_refused(self, lines, place):
        with self.subTest(lines=lines):
            with self.assertRaises(NoText) as caught:
                read(lines)
            self.assertEqual(caught.exception.place, place)
            self.assertIs(type(caught.exception.place), int)
            self.assertIsInstance(caught.exception, HouseError)

    def check_stands(self, above, line):
        """The line can stand behind those above it: whatever is wrong comes behind it."""
        lines = above + [line]
        with self.subTest(above=above, line=line):
            if line.split(" ")[0] in ENDED:
                self.check_refused(lines, len(lines))
            else:
                read(lines)
            self.check_refused(lines + ["nothing"], len(lines))

    def check_falls(self, above, line):
        """The line can't stand behind those above it, whatever comes behind it."""
        self.check_refused(above + [line], len(above))
        self.check_refused(above + [line, "nothing", ""], len(above))


class Worlds(Reading):

    def test_the_empty_list(self):
        self.check_world([], ((), (), (), ()))

    def test_each_form_of_line(self):
        self.check_world(FULL_LINES, FULL_WORLD)

    def test_all_is_of_just_its_kind(self):
        self.assertEqual(kinds_of(read(FULL_LINES)), {tuple, str, int})
        self.assertEqual(kinds_of(read([])), {tuple})

    def test_worlds_of_one_kind_alone(self):
        self.check_world(["guest ann 7"], ((("ann", 7),), (), (), ()))
        self.check_world(["stuff salt 3 6"], ((), (("salt", (3, 6), (), 0),), (), ()))
        self.check_world(["stuff a 1", "bar a a 5"], ((), (("a", (1,), (), 0),), ((0, 0, 5),), ()))

    def test_one_name_for_a_guest_a_stuff_and_an_order(self):
        self.check_world(
            ["guest a 0", "stuff a 1", "order a a a", "dose up 1 0 1", "asked 0"],
            ((("a", 0),), (("a", (1,), (), 0),), (), (("a", 0, 0, ("up", 1, 0, 1), ("asked", 0), ()),)))

    def test_names_that_are_words_of_the_text(self):
        self.check_world(
            ["guest guest 0", "guest order 1", "stuff cap 1", "stuff young 2", "bar cap young 3",
             "order taper order young", "dose down 4 5 6", "asked 7"],
            ((("guest", 0), ("order", 1)), (("cap", (1,), (), 0), ("young", (2,), (), 0)), ((0, 1, 3),),
             (("taper", 1, 1, ("down", 4, 5, 6), ("asked", 7), ()),)))

    def test_what_is_handed_in_stays_and_what_is_told_is_the_asker_s_own(self):
        lines = list(FULL_LINES)
        world = read(lines)
        self.assertEqual(lines, FULL_LINES)
        lines.clear()
        self.assertEqual(world, FULL_WORLD)
        self.assertEqual(read(FULL_LINES), FULL_WORLD)

    def test_each_beginning_of_a_text(self):
        for many in range(len(FULL_LINES)):
            lines = FULL_LINES[:many]
            if many > 0 and lines[-1].split(" ")[0] in ENDED:
                self.check_refused(lines, many)
            else:
                with self.subTest(many=many):
                    world = read(lines)
                    for part, whole in zip(world, FULL_WORLD):
                        self.assertLessEqual(len(part), len(whole))

    def test_each_line_spoilt(self):
        for place, line in enumerate(FULL_LINES):
            for spoilt in ("", " ", line + " ", " " + line, line.replace(" ", "  ", 1), line + " 1 1 1 1 1 1 1 1 1",
                           line[::-1], line.upper(), line.split(" ")[0], line.replace(" ", "\t"), "x" + line,
                           line.rsplit(" ", 1)[0] + " x", line.rsplit(" ", 1)[0] + " -1"):
                self.check_refused(FULL_LINES[:place] + [spoilt] + FULL_LINES[place + 1:], place)

    def test_the_first_of_several_is_told(self):
        self.check_refused(["guest ann 0", "guest ann 0", "guest ann 0"], 1)
        self.check_refused(["nothing", "guest Ann 0"], 0)
        self.check_refused(GUESTS + ["stuff milk 0", "nothing"], 2)


class Places(Reading):
    """What may stand behind what."""

    LINES = {
        "guest": "guest carl 0", "stuff": "stuff oil 7", "cap": "cap ever 5", "young": "young 3",
        "bar": "bar milk salt 6", "order": "order noon ann milk", "dose": "dose up 5 0 5", "asked": "asked 0",
        "due": "due 5 5 5 2 2", "taper": "taper 1 1 2",
    }
    ABOVE = {
        "": ([], "guest stuff"),
        "guest": (GUESTS, "guest stuff"),
        "stuff": (STUFFS, "stuff cap young bar order"),
        "cap": (STUFFS + ["cap ever 5"], "stuff cap young bar order"),
        "young": (STUFFS + ["young 5"], "stuff bar order"),
        "bar": (STUFFS + ["bar milk milk 1"], "bar order"),
        "order": (ORDER, "dose"),
        "dose": (DOSE, "asked due"),
        "asked": (DOSE + ["asked 5"], "order"),
        "due": (DUE, "taper order"),
    }

    def test_each_line_behind_each(self):
        for head, (above, good) in self.ABOVE.items():
            for word, line in self.LINES.items():
                if word in good.split(" "):
                    self.check_stands(above, line)
                else:
                    self.check_falls(above, line)

    def test_behind_a_taper(self):
        above = DUE + ["taper 1 1 2"]
        for word, line in self.LINES.items():
            if word == "order":
                self.check_stands(above, line)
            else:
                # The taper at hand has the k of the one above it.
                self.check_falls(above, line)
        self.check_stands(above, "taper 2 1 2")

    def test_bars_and_orders_need_names_that_are_there(self):
        self.check_falls([], "bar milk milk 1")
        self.check_falls(GUESTS, "order night ann milk")
        self.check_falls(["stuff milk 1"], "order night ann milk")

    def test_ends_within_an_order(self):
        self.check_refused(ORDER, len(ORDER))
        self.check_refused(DOSE, len(DOSE))
        again = DUE + ["order noon bob salt"]
        self.check_refused(again, len(again))
        self.check_refused(again + ["dose up 5 0 3"], len(again) + 1)
        read(again + ["dose up 5 0 3", "asked 0"])

    def test_a_cap_belongs_to_the_stuff_above_it(self):
        self.check_world(["stuff a 1", "cap ever 2", "stuff b 1", "cap ever 3", "young 4"],
                         ((), (("a", (1,), (("ever", 2),), 0), ("b", (1,), (("ever", 3),), 4)), (), ()))


class Words(Reading):
    """Words too few, too many, and none of those that may stand."""

    def test_too_few_and_too_many(self):
        for above, line in (([], "guest ann 0"), ([], "stuff milk 5"), (STUFFS, "cap flat 2 3"),
                            (STUFFS, "cap kilo 2 3 4"), (STUFFS, "cap ever 2"), (STUFFS, "young 3"),
                            (STUFFS, "bar milk salt 3"), (STUFFS, "order night ann milk"),
                            (ORDER, "dose up 3 4 5"), (DOSE, "asked 1"), (DOSE, "due 8 7 6 2 3"),
                            (DUE, "taper 1 2 3")):
            self.check_stands(above, line)
            words = line.split(" ")
            for many in range(len(words)):
                self.check_falls(above, " ".join(words[:many]))
            for more in ("x", "", "0", "ann"):
                self.check_falls(above, line + " " + more)

    def test_blanks(self):
        for line in (" guest ann 0", "guest ann 0 ", "guest  ann 0", "guest ann  0", "guest\tann 0", "guestann 0", " ",
                     ""):
            self.check_falls([], line)

    def test_great_letters(self):
        for line in ("Guest ann 0", "GUEST ann 0", "guest Ann 0"):
            self.check_falls([], line)
        self.check_falls(ORDER, "dose Up 3 4 5")
        self.check_falls(STUFFS, "cap Flat 2 3")

    def test_words_that_are_none(self):
        self.check_falls(STUFFS, "cap most 2 3")
        self.check_falls(STUFFS, "cap 2 3")
        self.check_falls(ORDER, "dose round 3 4 5")
        self.check_falls(ORDER, "dose 3 4 5")
        self.check_falls(ORDER, "dose up down 4 5")

    def test_a_cap_of_one_kind_with_the_numbers_of_another(self):
        for line in ("cap flat 2", "cap flat 2 3 4", "cap kilo 2 3", "cap kilo 2", "cap kilo 2 3 4 5", "cap ever 2 3",
                     "cap ever 2 3 4"):
            self.check_falls(STUFFS, line)

    def test_ways(self):
        for way in ("down", "up", "near"):
            self.check_stands(ORDER, "dose " + way + " 3 4 5")


class Names(Reading):

    def test_one_eight_and_nine_letters(self):
        for form, above in (("guest {} 0", []), ("stuff {} 1", []), ("order {} ann milk", STUFFS)):
            self.check_stands(above, form.format("z"))
            self.check_stands(above, form.format("abcdefgh"))
            for name in ("abcdefghi", "", "A", "a1", "1", "a-b", "a_b", "ab.", "'a"):
                self.check_falls(above, form.format(name))

    def test_told_twice(self):
        self.check_falls(GUESTS, "guest ann 7")
        self.check_falls(GUESTS, "guest bob 5")
        self.check_falls(STUFFS, "stuff milk 1")
        self.check_falls(STUFFS, "stuff salt 3")
        self.check_falls(DUE, "order night ann milk")
        self.check_falls(DUE, "order night bob salt")

    def test_names_that_none_has(self):
        for line in ("order noon carl milk", "order noon milk milk", "order noon ann oil", "order noon ann ann",
                     "order noon ann bob", "order noon  milk", "order noon ann ", "order noon 0 0"):
            self.check_falls(STUFFS, line)
        for line in ("bar oil oil 3", "bar milk oil 3", "bar oil milk 3", "bar ann bob 3", "bar milk ann 3",
                     "bar 0 1 3", "bar milk 3 3"):
            self.check_falls(STUFFS, line)


class Counts(Reading):
    """Each count at its bound and just beyond it."""

    def test_guests(self):
        lines = ["guest g" + "abcdef"[k] + " 0" for k in range(6)]
        self.assertEqual(len(read(lines)[0]), 6)
        self.check_falls(lines, "guest gg 0")

    def test_stuffs(self):
        lines = ["stuff s" + "abcdef"[k] + " 1" for k in range(6)]
        self.assertEqual(len(read(lines)[1]), 6)
        self.check_falls(lines, "stuff sg 1")

    def test_bars(self):
        stuffs = ["stuff " + name + " 1" for name in "abcdef"]
        pairs = [(one, two) for one in "abcdef" for two in "abcdef" if one <= two]
        bars = ["bar " + one + " " + two + " 3" for one, two in pairs[::-1]]
        self.assertEqual(len(read(stuffs + bars[:12])[2]), 12)
        self.assertEqual(read(stuffs + bars[:2])[2], ((5, 5, 3), (4, 5, 3)))
        self.check_falls(stuffs + bars[:12], bars[12])

    def test_orders(self):
        lines = list(STUFFS)
        for k in range(12):
            lines += ["order o" + "abcdefghijkl"[k] + " bob honey", "dose up 3 4 5", "asked 6"]
        self.assertEqual(len(read(lines)[3]), 12)
        self.check_falls(lines, "order om bob honey")

    def test_sizes(self):
        self.check_stands([], "stuff milk 1 2 3 4 5 6 7 8")
        self.check_falls([], "stuff milk 1 2 3 4 5 6 7 8 9")
        self.check_falls([], "stuff milk")

    def test_caps(self):
        caps = ["cap flat 1 1", "cap ever 1", "cap kilo 1 1 1", "cap flat 1 1"]
        self.assertEqual(len(read(STUFFS + caps)[1][2][2]), 4)
        for line in ("cap flat 1 1", "cap ever 1", "cap kilo 1 1 1"):
            self.check_falls(STUFFS + caps, line)

    def test_tapers(self):
        tapers = ["taper " + str(k) + " 1 2" for k in range(1, 8)]
        self.assertEqual(len(read(DUE + tapers[:6])[3][0][5]), 6)
        self.check_falls(DUE + tapers[:6], tapers[6])

    def test_each_of_the_greatest_at_once(self):
        lines = ["guest g" + one + " 0" for one in "abcdef"]
        for one in "abcdef":
            lines += ["stuff s" + one + " 1 2 3 4 5 6 7 8"] + ["cap kilo 1 2 3"] * 4 + ["young 9"]
        lines += ["bar sa s" + one + " 1" for one in "abcdef"] + ["bar sb s" + one + " 1" for one in "bcdef"]
        lines += ["bar sf sf 1"]
        for k in range(12):
            lines += ["order o" + "abcdefghijkl"[k] + " gf sf", "dose up 3 4 5", "due 0 1 60 0 0"]
            lines += ["taper " + str(10 * turn + 9) + " 1 1" for turn in range(6)]
        world = read(lines)
        self.assertEqual([len(part) for part in world], [6, 6, 12, 12])
        self.assertEqual(len(lines), 6 + 36 + 12 + 108)


class Numbers(Reading):
    """Each number at its bounds and just beyond them."""

    def check_number(self, above, form, low, high):
        self.check_stands(above, form.format(low))
        self.check_stands(above, form.format(high))
        for number in (low - 1, high + 1):
            self.check_falls(above, form.format(number))
        for text in ("", "x", "+" + str(high), "0" + str(high), str(high) + ".", "1_0", "00", "1" * 50):
            self.check_falls(above, form.format(text))

    def test_guest(self):
        self.check_number([], "guest ann {}", 0, GREAT)

    def test_size(self):
        self.check_number([], "stuff milk {}", 1, GREAT)

    def test_caps(self):
        self.check_number(STUFFS, "cap flat {} 5", 1, GREAT)
        self.check_number(STUFFS, "cap flat 5 {}", 1, GREAT)
        self.check_number(STUFFS, "cap kilo {} 5 5", 1, GREAT)
        self.check_number(STUFFS, "cap kilo 5 {} 5", 1, GREAT)
        self.check_number(STUFFS, "cap kilo 5 5 {}", 1, GREAT)
        self.check_number(STUFFS, "cap ever {}", 1, GREAT)

    def test_young(self):
        self.check_number(STUFFS, "young {}", 1, GREAT)
        self.check_falls(STUFFS, "young 0")

    def test_gap(self):
        self.check_number(STUFFS, "bar milk salt {}", 1, GREAT)

    def test_dose(self):
        self.check_number(ORDER, "dose up {} 5 100", 1, GREAT)
        self.check_number(ORDER, "dose up 5 {} 100", 0, GREAT)

    def test_most_from_the_part_to_2000_times_it(self):
        self.check_number(ORDER, "dose up 5 5 {}", 5, 10000)
        self.check_number(STUFFS + ["order night ann honey"], "dose up 5 5 {}", 1, 2000)
        self.check_number(STUFFS + ["order night ann salt"], "dose up 5 5 {}", 3, 6000)
        self.check_stands(ORDER, "dose up 5 5 7")
        great = ["guest a 0", "stuff b 1000000000", "order c a b"]
        self.check_number(great, "dose up 5 5 {}", GREAT, GREAT)

    def test_asked(self):
        self.check_number(DOSE, "asked {}", 0, GREAT)

    def test_due(self):
        self.check_number(DOSE, "due {} 5 5 0 0", 0, GREAT)
        self.check_number(DOSE, "due 5 {} 5 0 0", 1, GREAT)
        self.check_number(DOSE, "due 5 5 {} 0 0", 1, 60)
        self.check_number(DOSE, "due 1000000000 1000000000 5 {} 0", 0, GREAT - 1)
        self.check_number(DOSE, "due 5 1000000000 5 0 {}", 0, GREAT - 1)

    def test_early_and_late_less_than_every(self):
        self.check_number(DOSE, "due 100 6 5 {} 3", 0, 2)
        self.check_number(DOSE, "due 100 6 5 3 {}", 0, 2)
        self.check_number(DOSE, "due 100 {} 5 4 3", 8, GREAT)
        self.check_falls(DOSE, "due 100 1 5 1 0")
        self.check_falls(DOSE, "due 100 1 5 0 1")

    def test_begin_not_less_than_early(self):
        self.check_number(DOSE, "due {} 9 5 4 0", 4, GREAT)
        self.check_number(DOSE, "due 3 9 5 {} 0", 0, 3)
        self.check_stands(DOSE, "due 0 9 5 0 8")

    def test_taper(self):
        self.check_number(DUE, "taper {} 1 2", 1, 9)
        self.check_number(DUE, "taper 3 {} 7", 1, 7)
        self.check_number(DUE, "taper 3 {} 1000", 1, 1000)
        self.check_number(DUE, "taper 3 7 {}", 7, 1000)
        self.check_number(DUE, "taper 3 1 {}", 1, 1000)

    def test_tapers_rise_and_stay_below_many(self):
        above = DUE + ["taper 3 1 2"]
        self.check_number(above, "taper {} 1 2", 4, 9)
        self.check_falls(DUE + ["taper 9 1 1"], "taper 9 1 1")
        self.check_falls(DUE + ["taper 9 1 1"], "taper 10 1 1")
        self.check_falls(DOSE + ["due 8 24 1 2 3"], "taper 1 1 1")
        self.check_falls(DOSE + ["due 8 24 1 2 3"], "taper 0 1 1")
        self.check_stands(DOSE + ["due 8 24 60 2 3"], "taper 59 1 1")
        self.check_falls(DOSE + ["due 8 24 60 2 3"], "taper 60 1 1")

    def test_a_taper_goes_by_the_one_just_above_it(self):
        above = DUE + ["taper 2 1 2", "taper 5 1 2"]
        self.check_number(above, "taper {} 1 2", 6, 9)

    def test_tapers_belong_to_the_order_above_them(self):
        lines = DUE + ["taper 2 1 2", "order noon bob salt", "dose up 5 0 3", "due 0 5 4 0 0"]
        lines = lines + ["taper 1 1 3", "taper 3 1 4"]
        orders = read(lines)[3]
        self.assertEqual([order[5] for order in orders], [((2, 1, 2),), ((1, 1, 3), (3, 1, 4))])
        self.check_falls(lines[:-1], "taper 4 1 4")

    def test_no_taper_behind_asked(self):
        self.check_falls(DOSE + ["asked 8"], "taper 1 1 2")


class Bars(Reading):

    def test_turned_round(self):
        self.check_stands(STUFFS, "bar milk honey 3")
        self.check_falls(STUFFS, "bar honey milk 3")
        self.check_falls(STUFFS, "bar salt milk 3")

    def test_the_same_stuff(self):
        for name in ("milk", "honey", "salt"):
            self.check_stands(STUFFS, "bar " + name + " " + name + " 3")

    def test_told_twice(self):
        above = STUFFS + ["bar milk salt 3", "bar honey honey 4"]
        for line in ("bar milk salt 3", "bar milk salt 4", "bar honey honey 4", "bar honey honey 5", "bar salt milk 3"):
            self.check_falls(above, line)
        for line in ("bar milk honey 3", "bar milk milk 3", "bar salt salt 3", "bar honey salt 3"):
            self.check_stands(above, line)


class Sizes(Reading):

    def test_rising_each_once(self):
        self.check_stands([], "stuff milk 5 10 15")
        for sizes in ("10 5", "5 5", "5 10 10", "5 15 10", "5 10 5"):
            self.check_falls([], "stuff milk " + sizes)

    def test_multiples_of_the_first(self):
        for sizes in ("5 10", "5 15 25", "1 2 3", "3 6 9", "7 14000"):
            self.check_stands([], "stuff milk " + sizes)
        for sizes in ("5 11", "5 10 12", "2 3", "4 6", "5 9", "3 6 10 12"):
            self.check_falls([], "stuff milk " + sizes)

    def test_not_above_2000_times_the_first(self):
        for sizes in ("1 2000", "5 10000", "3 6 6000", "500000 1000000000"):
            self.check_stands([], "stuff milk " + sizes)
        for sizes in ("1 2001", "5 10005", "3 6 6003", "1 2 4000", "499999 999999999"):
            self.check_falls([], "stuff milk " + sizes)

    def test_whole_numbers_from_1_on(self):
        for sizes in ("0", "0 1", "1 0", "-1", "1.5", "5 ten", "5 1000000005", "1000000000 2000000000"):
            self.check_falls([], "stuff milk " + sizes)


if __name__ == "__main__":
    unittest.main()
