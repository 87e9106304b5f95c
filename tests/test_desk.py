"""Point 33 and the interface under stage 9: each line that a desk answers, and lines that are none."""

import unittest

from dosehouse.desk import Desk
from dosehouse.errors import HouseError, NoEntry, NoLine, NoText, Twice

LINES = [
    "guest ann 0",
    "guest bob 4",
    "stuff milk 5 10 25",
    "cap kilo 24 1 1",
    "cap ever 500",
    "young 2",
    "stuff honey 1",
    "cap flat 10 20",
    "bar milk honey 3",
    "order morn ann milk",
    "dose up 1 0 60",
    "asked 0",
    "order sweet ann honey",
    "dose near 7 0 20",
    "due 12 24 3 2 3",
    "taper 2 1 2",
    "order bobs bob milk",
    "dose down 2 3 60",
    "due 8 24 3 2 3",
    "order ann ann honey",
    "dose up 1 0 20",
    "asked 10",
]


class Saying(unittest.TestCase):

    def setUp(self):
        self.desk = Desk(list(LINES))

    def check(self, line, *told):
        with self.subTest(line=line):
            answer = self.desk.say(line)
            self.assertEqual(answer, list(told))
            self.assertIs(type(answer), list)
            for row in answer:
                self.assertIs(type(row), str)

    def does(self, *lines):
        for line in lines:
            self.check(line, "ok")

    def refused(self, line, error, field, told):
        before = self.desk.say("book")
        with self.subTest(line=line):
            with self.assertRaises(error) as caught:
                self.desk.say(line)
            self.assertIs(type(caught.exception), error)
            self.assertIsInstance(caught.exception, HouseError)
            self.assertEqual(getattr(caught.exception, field), told)
        self.assertEqual(self.desk.say("book"), before)

    def no_line(self, line):
        self.refused(line, NoLine, "line", line)

    def check_no(self, line, *told):
        before = self.desk.say("book")
        self.check(line, "no", *told)
        self.assertEqual(self.desk.say("book"), before)


class Worlds(Saying):

    def test_lines_that_are_no_text(self):
        for lines, place in ((["guest ann"], 0), (LINES + ["guest carl 0"], len(LINES)), (LINES[:-1], len(LINES) - 1)):
            with self.assertRaises(NoText) as caught:
                Desk(lines)
            self.assertEqual(caught.exception.place, place)

    def test_show(self):
        self.check("show", *LINES)
        self.desk.say("show").clear()
        self.check("show", *LINES)

    def test_the_lines_handed_in_are_copied(self):
        lines = list(LINES)
        desk = Desk(lines)
        lines.clear()
        self.assertEqual(desk.say("show"), LINES)
        handed = list(LINES)
        Desk(handed)
        self.assertEqual(handed, LINES)

    def test_the_empty_world(self):
        desk = Desk([])
        for line, told in (("show", []), ("book", []), ("open 5", []), ("missed 5", []), ("next 5", ["none"]),
                           ("round 5", [])):
            self.assertEqual(desk.say(line), told)
        for line in ("weigh ann 5 60", "give morn 5 10", "room morn 5", "wait morn 5 5 5"):
            with self.assertRaises(NoLine):
                desk.say(line)

    def test_two_desks_share_nothing(self):
        other = Desk(LINES)
        self.does("weigh ann 0 60")
        self.assertEqual(other.say("book"), [])


class Deeds(Saying):

    def test_weigh_and_unweigh(self):
        self.does("weigh bob 5 70", "weigh ann 9 1", "weigh ann 3 1000000", "weigh ann 0 60")
        self.check("book", "weight ann 0 60", "weight ann 3 1000000", "weight ann 9 1", "weight bob 5 70")
        self.does("unweigh ann 3", "unweigh bob 5")
        self.check("book", "weight ann 0 60", "weight ann 9 1")

    def test_give_strike_amend_and_move(self):
        self.does("weigh ann 0 60", "give morn 5 10", "give ann 20 7", "give morn 30 60")
        self.check("book", "weight ann 0 60", "given morn 5 10", "given morn 30 60", "given ann 20 7")
        self.does("amend morn 5 20", "move morn 30 40", "strike ann 20")
        self.check("book", "weight ann 0 60", "given morn 5 20", "given morn 40 60")
        self.does("amend morn 5 20", "move morn 40 40")
        self.check("book", "weight ann 0 60", "given morn 5 20", "given morn 40 60")

    def test_the_book_is_in_the_book_s_order(self):
        self.does("weigh bob 0 60", "weigh ann 100 60", "weigh ann 9 60")
        self.does("give ann 100 1", "give bobs 8 5", "give sweet 10 1", "give ann 20 1", "give morn 15 5")
        self.check("book", "weight ann 9 60", "weight ann 100 60", "weight bob 0 60", "given morn 15 5",
                   "given sweet 10 1", "given bobs 8 5", "given ann 20 1", "given ann 100 1")

    def test_the_empty_book(self):
        self.check("book")

    def test_a_told_list_is_the_asker_s_own(self):
        self.does("weigh ann 0 60")
        self.desk.say("book").clear()
        self.check("book", "weight ann 0 60")
        told = self.desk.say("book")
        self.does("weigh ann 1 60")
        self.assertEqual(told, ["weight ann 0 60"])

    def test_twice(self):
        self.does("weigh ann 0 60", "weigh bob 0 60", "give bobs 8 5", "give bobs 32 5")
        self.refused("weigh bob 0 70", Twice, "entry", (1, 0))
        self.refused("give bobs 8 5", Twice, "entry", (2, 8))
        self.refused("give bobs 8 7", Twice, "entry", (2, 8))
        self.refused("move bobs 8 32", Twice, "entry", (2, 32))

    def test_no_entry(self):
        self.does("weigh bob 0 60", "give bobs 8 5")
        self.refused("unweigh bob 1", NoEntry, "entry", (1, 1))
        self.refused("strike bobs 9", NoEntry, "entry", (2, 9))
        self.refused("amend ann 8 5", NoEntry, "entry", (3, 8))
        self.refused("move bobs 9 10", NoEntry, "entry", (2, 9))
        self.refused("move bobs 9 8", NoEntry, "entry", (2, 9))

    def test_each_kind_of_fault(self):
        self.does("weigh bob 0 60", "give bobs 8 5", "give ann 12 20")
        self.check_no("give bobs 12 5", "astray bobs 12")
        self.check_no("give ann 21 1", "cap ann honey 0 21 21 20")
        self.check_no("give morn 14 5", "gap ann 12 morn 14", "weight morn 14")
        self.check_no("give morn 10 5", "gap morn 10 ann 12", "weight morn 10")
        self.check_no("give bobs 32 65", "cap bob milk 0 32 65 60", "most bobs 32")
        self.check_no("give bobs 32 7", "part bobs 32")
        self.check_no("give bobs 32 0", "part bobs 32")
        self.check_no("give bobs 9 5", "twice bobs 0")
        self.check_no("give morn 20 5", "weight morn 20")
        self.check_no("give bobs 5 5", "astray bobs 5", "young bobs 5")

    def test_faults_of_each_deed(self):
        self.does("weigh bob 0 60", "weigh ann 9 60", "give bobs 8 40", "give bobs 32 60", "give sweet 12 5")
        self.check_no("weigh bob 20 50", "cap bob milk 0 32 60 50")
        self.check_no("unweigh bob 0", "weight bobs 8", "weight bobs 32")
        self.check_no("amend bobs 8 65", "cap bob milk 0 8 65 60", "most bobs 8")
        self.check_no("move bobs 8 10", "cap bob milk 0 32 100 60")
        self.check_no("move bobs 8 30", "cap bob milk 0 32 100 60", "twice bobs 1")
        self.does("strike bobs 8", "strike bobs 32", "unweigh bob 0")

    def test_faults_in_the_faults_order(self):
        self.does("weigh ann 0 60", "give ann 12 20")
        self.check_no("give ann 9 21", "astray ann 9", "cap ann honey 0 9 21 20", "cap ann honey 0 12 41 20",
                      "most ann 9")
        self.does("give morn 15 30")
        self.check_no("give sweet 14 21", "cap ann honey 0 14 41 20", "gap sweet 14 morn 15", "most sweet 14")


class Rounds(Saying):

    def test_open_and_missed(self):
        self.check("open 5")
        self.check("open 6", "bobs 0 8")
        self.check("open 10", "bobs 0 8", "sweet 0 12")
        self.check("open 34", "bobs 1 32", "sweet 1 36")
        self.check("missed 11")
        self.check("missed 12", "bobs 0 8")
        self.check("missed 16", "bobs 0 8", "sweet 0 12")
        self.check("missed 1000000000", "bobs 0 8", "sweet 0 12", "bobs 1 32", "sweet 1 36", "bobs 2 56", "sweet 2 60")
        self.does("give sweet 10 1")
        self.check("open 10", "bobs 0 8")
        self.check("missed 16", "bobs 0 8")

    def test_next(self):
        self.check("next 0", "next 6")
        self.check("next 6", "next 10")
        self.check("next 63", "next 64")
        self.check("next 64", "none")
        self.check("next 1000000000", "none")

    def test_round(self):
        self.check("round 0")
        self.check("round 6", "held bobs 0 1")
        self.check("round 10", "held bobs 0 1", "give sweet 0 7 7")
        self.does("weigh bob 0 53")
        self.check("round 6", "give bobs 0 35 2")
        self.check("round 10", "give bobs 0 35 2", "give sweet 0 7 7")
        self.does("weigh bob 7 34")
        self.check("round 8", "give bobs 0 20 2")
        self.check("round 58", "give bobs 2 20 2", "give sweet 2 3 3")
        self.check("book", "weight bob 0 53", "weight bob 7 34")

    def test_a_round_between_what_is_held(self):
        self.does("weigh ann 0 60", "weigh bob 0 53", "give morn 12 5")
        self.check("round 11", "give bobs 0 35 2", "held sweet 0 1")
        self.check("round 15", "give sweet 0 7 7")
        self.does("give ann 20 19")
        self.check("round 11", "give bobs 0 35 2", "held sweet 0 2")
        self.does("strike morn 12", "unweigh bob 0", "weigh bob 9 60")
        self.check("round 8", "held bobs 0 1")
        self.check("round 11", "give bobs 0 40 3", "held sweet 0 1")

    def test_a_round_can_be_given_as_it_stands(self):
        self.does("weigh bob 0 53")
        for line in self.desk.say("round 10"):
            word, order, k, amount, many = line.split(" ")
            self.check(" ".join((word, order, "10", amount)), "ok")
        self.check("book", "weight bob 0 53", "given sweet 10 7", "given bobs 10 35")
        self.check("round 10")


class RoomAndWait(Saying):

    def test_room(self):
        self.check("room morn 5", "room 0")
        self.check("room ann 9", "room 0")
        self.check("room ann 10", "room 20")
        self.does("weigh ann 0 53", "give ann 20 12")
        self.check("room morn 5", "room 50")
        self.check("room morn 1", "room 0")
        self.check("room morn 22", "room 0")
        self.check("room morn 23", "room 50")
        self.check("room ann 20", "room 0")
        self.check("room ann 21", "room 8")

    def test_wait(self):
        self.check("wait morn 5 0 1000000000", "never")
        self.does("weigh ann 0 53", "give ann 20 12")
        self.check("wait morn 5 0 1000000000", "wait 2")
        self.check("wait morn 5 18 1000000000", "wait 23")
        self.check("wait morn 5 18 23", "wait 23")
        self.check("wait morn 5 18 22", "never")
        self.check("wait morn 5 23 22", "never")
        self.check("wait morn 55 0 1000000000", "never")
        self.check("wait morn 7 0 1000000000", "never")
        self.check("wait morn 0 0 1000000000", "never")
        self.check("wait ann 9 11 1000000000", "wait 30")
        self.check("wait sweet 9 16 1000000000", "wait 34")


class NoLines(Saying):

    def test_the_empty_line_and_blanks(self):
        for line in ("", " ", "  ", " show", "show ", " book", "book ", "weigh  ann 0 60", "weigh ann  0 60",
                     "weigh ann 0 60 ", " weigh ann 0 60", "open  5", "open 5 ", "next\t5"):
            self.no_line(line)

    def test_wrong_words(self):
        for line in ("nothing", "Show", "SHOW", "shows", "weight ann 0 60", "given morn 5 10", "guest ann 0", "open5",
                     "held bobs 0 1", "none", "ok", "no", "ann", "5", "%", "faults", "alarms"):
            self.no_line(line)

    def test_too_few_and_too_many_words(self):
        for line in ("show", "book", "weigh ann 0 60", "unweigh ann 0", "give morn 5 10", "strike morn 5",
                     "amend morn 5 10", "move morn 5 6", "open 5", "missed 5", "next 5", "round 5", "room morn 5",
                     "wait morn 5 5 5"):
            words = line.split(" ")
            for many in range(1, len(words)):
                self.no_line(" ".join(words[:many]))
            for more in ("0", "5", "ann", "x", ""):
                self.no_line(line + " " + more)

    def test_names_that_the_world_has_not(self):
        for line in ("weigh carl 0 60", "weigh morn 0 60", "weigh milk 0 60", "weigh Ann 0 60", "weigh 0 0 60",
                     "unweigh carl 0", "give noon 5 10", "give bob 5 10", "give milk 5 10", "give 0 5 10",
                     "strike noon 5", "amend noon 5 10", "move noon 5 6", "room noon 5", "room milk 5",
                     "wait noon 5 5 5",
                     "give aaaaaaaaaaaaaaaaaaaaaaaaaaaaaaaa 5 10"):
            self.no_line(line)

    def test_each_number(self):
        for form in ("weigh ann {} 60", "unweigh ann {}", "give morn {} 10", "give morn 5 {}", "strike morn {}",
                     "amend morn {} 10", "amend morn 5 {}", "move morn {} 6", "move morn 5 {}", "open {}", "missed {}",
                     "next {}", "round {}", "room morn {}", "wait morn {} 5 5", "wait morn 5 {} 5", "wait morn 5 5 {}"):
            for text in ("-1", "+1", "01", "00", "1000000001", "10000000000", "1.0", "1_0", "x", "", "-0", "1e3",
                         "9" * 900):
                self.no_line(form.format(text))
            for text in ("0", "1000000000"):
                with self.subTest(form=form, text=text):
                    try:
                        Desk(LINES).say(form.format(text))
                    except NoEntry:
                        pass

    def test_weights_from_1_to_1000000(self):
        for text in ("0", "1000001", "1000000000", "-5", "060"):
            self.no_line("weigh ann 5 " + text)
        self.does("weigh ann 5 1", "weigh ann 6 1000000")

    def test_no_line_goes_ahead_of_all_else(self):
        self.does("weigh ann 0 60", "give morn 5 60")
        for line in ("weigh ann 0 0", "weigh ann 0 60 ", "give morn 5 -5", "give morn 5 1000000001", "strike morn 05",
                     "amend morn 6 -1", "move morn 6 1000000001", "give morn 5"):
            self.no_line(line)

    def test_long_lines(self):
        self.no_line("x" * 1000)
        self.no_line("show" + " " * 996)
        self.no_line("open " + "1" * 995)
        self.no_line("room " + "a" * 900 + " 5")
        self.no_line(" ".join(["show"] * 200))


if __name__ == "__main__":
    unittest.main()
