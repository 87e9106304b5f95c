"""A desk: it keeps a house and answers lines by lists of lines."""

from dosehouse.errors import NoLine, Unsafe
from dosehouse.house import House
from dosehouse.reading import read
from dosehouse.room import room, wait
from dosehouse.rounds import missed_dues, next_change, open_dues, pieces_for, round_at
from dosehouse.showing import shown
from dosehouse.words import number_of

# What stands behind the first word of each line that a desk answers.
FORMS = {
    "show": (),
    "book": (),
    "weigh": ("guest", "number", "weight"),
    "unweigh": ("guest", "number"),
    "give": ("order", "number", "number"),
    "strike": ("order", "number"),
    "amend": ("order", "number", "number"),
    "move": ("order", "number", "number"),
    "open": ("number",),
    "missed": ("number",),
    "next": ("number",),
    "round": ("number",),
    "room": ("order", "number"),
    "wait": ("order", "number", "number", "number"),
}
DEEDS = ("weigh", "unweigh", "give", "strike", "amend", "move")
GREATEST_WEIGHT = 1000000
# Words may be longer here than number_of is made for; no number has more figures than this.
MOST_FIGURES = 10


def place_of(rows, name):
    """The number of the row with this name, or None."""
    for k, row in enumerate(rows):
        if row[0] == name:
            return k
    return None


def value_of(world, form, word):
    """The number that the word stands for, by its form; None where it stands for none."""
    if form == "guest":
        return place_of(world[0], word)
    if form == "order":
        return place_of(world[3], word)
    if len(word) > MOST_FIGURES:
        return None
    number = number_of(word)
    if form == "weight" and number is not None and not 1 <= number <= GREATEST_WEIGHT:
        return None
    return number


def values_of(world, line):
    """The numbers that the words behind the line's first one stand for; NoLine where the line is none."""
    words = line.split(" ")
    if words[0] not in FORMS or len(words) != len(FORMS[words[0]]) + 1:
        raise NoLine(line)
    found = [value_of(world, form, word) for form, word in zip(FORMS[words[0]], words[1:])]
    if None in found:
        raise NoLine(line)
    return found


def line_of(words):
    """A line of these words, texts and numbers."""
    return " ".join([str(word) for word in words])


def fault_line(world, fault):
    """The fault with names in the place of guests, stuffs and orders."""
    kind = fault[0]
    if kind == "cap":
        return line_of((kind, world[0][fault[1]][0], world[1][fault[2]][0]) + fault[3:])
    name = world[3][fault[1]][0]
    if kind == "gap":
        return line_of((kind, name, fault[2], world[3][fault[3]][0], fault[4]))
    return line_of((kind, name, fault[2]))


def book_lines(world, book):
    """A line for each entry of the book."""
    weights = [line_of(("weight", world[0][row[0]][0], row[1], row[2])) for row in book[0]]
    return weights + [line_of(("given", world[3][row[0]][0], row[1], row[2])) for row in book[1]]


def due_lines(world, dues):
    """A line for each due (hour, order, k)."""
    return [line_of((world[3][due[1]][0], due[2], due[0])) for due in dues]


def round_lines(world, book, hour):
    """A line for each open due: what the round gives, or that it is held back."""
    told = round_at(world, book, hour)
    answers = {}
    for row in told[0]:
        pieces = sum(pieces_for(world, row[0], row[2]))
        answers[(row[0], row[1])] = line_of(("give", world[3][row[0]][0], row[1], row[2], pieces))
    for row in told[1]:
        answers[(row[0], row[1])] = line_of(("held", world[3][row[0]][0], row[1], len(row[2])))
    return [answers[(due[1], due[2])] for due in open_dues(world, book, hour)]


def hour_lines(word, hour, without):
    """The word and the hour, or what is said where there is no hour."""
    if hour is None:
        return [without]
    return [line_of((word, hour))]


def answer_at(world, book, word, hour):
    """What is told of the dues at an hour."""
    if word == "open":
        return due_lines(world, open_dues(world, book, hour))
    if word == "missed":
        return due_lines(world, missed_dues(world, book, hour))
    if word == "next":
        return hour_lines("next", next_change(world, book, hour), "none")
    return round_lines(world, book, hour)


def answer(world, book, word, values):
    """What is told of the world and the book, which stay as they are."""
    if word == "show":
        return shown(world)
    if word == "book":
        return book_lines(world, book)
    if word == "room":
        return [line_of(("room", room(world, book, values[0], values[1])))]
    if word == "wait":
        return hour_lines("wait", wait(world, book, values[0], values[1], values[2], values[3]), "never")
    return answer_at(world, book, word, values[0])


def do_deed(house, word, values):
    """The house does the deed, or refuses it."""
    if word == "weigh":
        house.weigh(values[0], values[1], values[2])
    elif word == "unweigh":
        house.unweigh(values[0], values[1])
    elif word == "give":
        house.give(values[0], values[1], values[2])
    elif word == "strike":
        house.strike(values[0], values[1])
    elif word == "amend":
        house.amend(values[0], values[1], values[2])
    else:
        house.move(values[0], values[1], values[2])


class Desk:
    """A desk of the world whose text the lines are."""

    def __init__(self, lines):
        self.world = read(lines)
        self.house = House(self.world)

    def say(self, line):
        """The list of lines that answers the line; NoLine where it is none that a desk answers."""
        values = values_of(self.world, line)
        word = line.split(" ")[0]
        if word not in DEEDS:
            return answer(self.world, self.house.book(), word, values)
        try:
            do_deed(self.house, word, values)
        except Unsafe as refusal:
            return ["no"] + [fault_line(self.world, fault) for fault in refusal.faults]
        return ["ok"]
