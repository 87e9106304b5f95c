"""A world, read from its text line by line."""

from dosehouse.errors import NoText
from dosehouse.words import is_name, number_of

# Behind a line's first word: the first words that the next line may have. "" stands for the text's top.
BEHIND = {
    "": ("guest", "stuff", "bar", "order"),
    "guest": ("guest", "stuff", "bar", "order"),
    "stuff": ("cap", "young", "stuff", "bar", "order"),
    "cap": ("cap", "young", "stuff", "bar", "order"),
    "young": ("stuff", "bar", "order"),
    "bar": ("bar", "order"),
    "order": ("dose",),
    "dose": ("asked", "due"),
    "asked": ("order",),
    "due": ("taper", "order"),
    "taper": ("taper", "order"),
}
UNENDED = ("order", "dose")

# The least number that may stand in each place of a cap's line.
CAP_LOWS = {"flat": (1, 1), "kilo": (1, 1, 1), "ever": (1,)}
WAYS = ("down", "up", "near")

MOST_GUESTS = 6
MOST_STUFFS = 6
MOST_BARS = 12
MOST_ORDERS = 12
MOST_SIZES = 8
MOST_CAPS = 4
MOST_TAPERS = 6
MOST_DUES = 60
MOST_DEN = 1000
MOST_PARTS = 2000


class Draft:
    """What the lines read so far have told: rows of a world, the last of them perhaps not whole yet."""

    def __init__(self):
        self.head = ""
        self.guests = []
        self.stuffs = []
        self.bars = []
        self.orders = []


def place_of(rows, name):
    """The number of the row with this name, or None."""
    for k, row in enumerate(rows):
        if row[0] == name:
            return k
    return None


def has_new_name(rows, words):
    """Whether the words begin with a name that none of the rows has."""
    return len(words) > 0 and is_name(words[0]) and place_of(rows, words[0]) is None


def numbers_of(words, lows):
    """The list of numbers that the words write, one for each of lows and not below it; None where they don't."""
    if len(words) != len(lows):
        return None
    found = []
    for word, low in zip(words, lows):
        number = number_of(word)
        if number is None or number < low:
            return None
        found.append(number)
    return found


def with_part(row, k, part):
    """The row with another part in place k."""
    return row[:k] + (part,) + row[k + 1:]


def take_guest(draft, words):
    """Whether `guest NAME BORN` can stand; if so the draft has it, as with all that take a line here."""
    born = numbers_of(words[1:], (0,))
    if len(draft.guests) == MOST_GUESTS or not has_new_name(draft.guests, words) or born is None:
        return False
    draft.guests.append((words[0], born[0]))
    return True


def sizes_fit(sizes):
    """Whether these whole numbers from 1 on can be a stuff's sizes."""
    if not 1 <= len(sizes) <= MOST_SIZES:
        return False
    part = sizes[0]
    rises = all([low < high for low, high in zip(sizes, sizes[1:])])
    return rises and all([size % part == 0 for size in sizes]) and sizes[-1] <= MOST_PARTS * part


def take_stuff(draft, words):
    """`stuff NAME SIZE ..`."""
    sizes = numbers_of(words[1:], [1 for word in words[1:]])
    if len(draft.stuffs) == MOST_STUFFS or not has_new_name(draft.stuffs, words):
        return False
    if sizes is None or not sizes_fit(sizes):
        return False
    draft.stuffs.append((words[0], tuple(sizes), (), 0))
    return True


def take_cap(draft, words):
    """`cap flat HOURS TOP`, `cap kilo HOURS TOP PER` or `cap ever TOP`."""
    caps = draft.stuffs[-1][2]
    if len(caps) == MOST_CAPS or len(words) == 0 or words[0] not in CAP_LOWS:
        return False
    numbers = numbers_of(words[1:], CAP_LOWS[words[0]])
    if numbers is None:
        return False
    cap = tuple([words[0]] + numbers)
    draft.stuffs[-1] = with_part(draft.stuffs[-1], 2, caps + (cap,))
    return True


def take_young(draft, words):
    """`young AGE`, from 1 on, as an age of 0 has no line."""
    age = numbers_of(words, (1,))
    if age is None:
        return False
    draft.stuffs[-1] = with_part(draft.stuffs[-1], 3, age[0])
    return True


def take_bar(draft, words):
    """`bar STUFF STUFF GAP`."""
    gap = numbers_of(words[2:], (1,))
    if len(draft.bars) == MOST_BARS or gap is None:
        return False
    stuff = place_of(draft.stuffs, words[0])
    other = place_of(draft.stuffs, words[1])
    if stuff is None or other is None or stuff > other:
        return False
    if (stuff, other) in [(bar[0], bar[1]) for bar in draft.bars]:
        return False
    draft.bars.append((stuff, other, gap[0]))
    return True


def take_order(draft, words):
    """`order NAME GUEST STUFF`; its rule and dues come with the next lines."""
    if len(draft.orders) == MOST_ORDERS or not has_new_name(draft.orders, words) or len(words) != 3:
        return False
    guest = place_of(draft.guests, words[1])
    stuff = place_of(draft.stuffs, words[2])
    if guest is None or stuff is None:
        return False
    draft.orders.append((words[0], guest, stuff, (), (), ()))
    return True


def take_dose(draft, words):
    """`dose WAY TOP PER MOST`."""
    order = draft.orders[-1]
    part = draft.stuffs[order[2]][1][0]
    numbers = numbers_of(words[1:], (1, 0, part))
    if numbers is None or words[0] not in WAYS or numbers[2] > MOST_PARTS * part:
        return False
    draft.orders[-1] = with_part(order, 3, tuple([words[0]] + numbers))
    return True


def take_asked(draft, words):
    """`asked BEGIN`."""
    begin = numbers_of(words, (0,))
    if begin is None:
        return False
    draft.orders[-1] = with_part(draft.orders[-1], 4, ("asked", begin[0]))
    return True


def take_due(draft, words):
    """`due BEGIN EVERY MANY EARLY LATE`."""
    numbers = numbers_of(words, (0, 1, 1, 0, 0))
    if numbers is None:
        return False
    early = numbers[3]
    late = numbers[4]
    if numbers[2] > MOST_DUES or early + late >= numbers[1] or numbers[0] < early:
        return False
    draft.orders[-1] = with_part(draft.orders[-1], 4, tuple(["due"] + numbers))
    return True


def take_taper(draft, words):
    """`taper K NUM DEN`."""
    order = draft.orders[-1]
    tapers = order[5]
    least = tapers[-1][0] + 1 if len(tapers) > 0 else 1
    numbers = numbers_of(words, (least, 1, 1))
    if len(tapers) == MOST_TAPERS or numbers is None:
        return False
    many = order[4][3]
    if numbers[0] >= many or numbers[1] > numbers[2] or numbers[2] > MOST_DEN:
        return False
    draft.orders[-1] = with_part(order, 5, tapers + (tuple(numbers),))
    return True


def take_of_order(draft, head, words):
    """Whether a line of an order can stand."""
    if head == "order":
        return take_order(draft, words)
    if head == "dose":
        return take_dose(draft, words)
    if head == "asked":
        return take_asked(draft, words)
    if head == "due":
        return take_due(draft, words)
    return take_taper(draft, words)


def take(draft, line):
    """Whether the line can stand behind those that the draft has; if so the draft has it too."""
    words = line.split(" ")
    head = words[0]
    if head not in BEHIND[draft.head]:
        return False
    draft.head = head
    rest = words[1:]
    if head == "guest":
        return take_guest(draft, rest)
    if head == "stuff":
        return take_stuff(draft, rest)
    if head == "cap":
        return take_cap(draft, rest)
    if head == "young":
        return take_young(draft, rest)
    if head == "bar":
        return take_bar(draft, rest)
    return take_of_order(draft, head, rest)


def read(lines):
    """The world whose text the lines are; NoText with the place of the first line that can't stand."""
    draft = Draft()
    for place, line in enumerate(lines):
        if not take(draft, line):
            raise NoText(place)
    if draft.head in UNENDED:
        raise NoText(len(lines))
    return (tuple(draft.guests), tuple(draft.stuffs), tuple(draft.bars), tuple(draft.orders))
