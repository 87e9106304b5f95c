"""How much can be given at an hour, and when an amount can be given."""

from dosehouse.books import givings_of, with_giving
from dosehouse.bounds import bound
from dosehouse.dues import span, state
from dosehouse.faults import faults
from dosehouse.weights import weight_at
from dosehouse.windows import sums


def giving_hours(book, order):
    """The hours of the order's givings, a list."""
    return [row[0] for row in givings_of(book, order)]


def room(world, book, order, hour):
    """The greatest multiple of the part, up to the order's most, that can be given at the hour; 0 where none can."""
    if hour in giving_hours(book, order):
        return 0
    row = world[3][order]
    part = world[1][row[2]][1][0]
    low = 0
    high = row[3][3] // part
    # What a book lets by it lets by in lesser amounts too, so the middle tells on which side the greatest lies.
    while low < high:
        middle = (low + high + 1) // 2
        if faults(world, with_giving(book, order, hour, middle * part)) == []:
            low = middle
        else:
            high = middle - 1
    return low * part


# From here on a stretch is a tuple (first hour, last hour) of hours at which the amount can't be given; one whose
# first hour lies behind its last one has no hours. Hours ahead of `hour` and behind `last` are of no account.


def amount_fits(world, order, amount):
    """Whether the amount can be given by the order at all."""
    row = world[3][order]
    return amount >= 1 and amount % world[1][row[2]][1][0] == 0 and amount <= row[3][3]


def due_stretches(row, hours, hour, last):
    """Where the order's givings would be astray, or a second one for a due; hours are those of its givings."""
    dues = row[4]
    if dues[0] == "asked":
        return [(hour, dues[1] - 1)]
    found = []
    begin = hour
    for k in range(dues[3]):
        ends = span(row, k)
        found.append((begin, ends[0] - 1))
        if state(row, hours, k, hour) == "given":
            found.append(ends)
        begin = ends[1] + 1
    found.append((begin, last))
    return found


def gap_of(bars, stuff, other):
    """The gap of the two stuffs, 0 where no bar names them."""
    pair = (min(stuff, other), max(stuff, other))
    return sum([bar[2] for bar in bars if (bar[0], bar[1]) == pair])


def gap_stretches(world, book, order):
    """Where another giving to the guest lies too near."""
    row = world[3][order]
    found = []
    for giving in book[1]:
        other = world[3][giving[0]]
        if other[1] == row[1]:
            gap = gap_of(world[2], row[2], other[2])
            found.append((giving[1] - gap + 1, giving[1] + gap - 1))
    return found


def age_stretches(world, book, order, hour, last):
    """Where the guest is too young, or has no weight though the stuff asks for one."""
    row = world[3][order]
    stuff = world[1][row[2]]
    found = [(hour, world[0][row[1]][1] + stuff[3] - 1)]
    if any([cap[0] == "kilo" for cap in stuff[2]]):
        weighed = [weighing[1] for weighing in book[0] if weighing[0] == row[1]]
        found.append((hour, min(weighed, default=last + 1) - 1))
    return found


def marks_of(world, book, order):
    """The marks (hour, amount) of all givings of the order's stuff to its guest."""
    row = world[3][order]
    found = []
    for giving in book[1]:
        other = world[3][giving[0]]
        if other[1] == row[1] and other[2] == row[2]:
            found.append((giving[1], giving[2]))
    return found


def cap_steps(cap, marks, weights, guest, hour):
    """The hours, from the first one asked on, at which the cap's sum can sink or its bound can change."""
    steps = [hour] + [weighing[1] for weighing in weights if weighing[0] == guest]
    if cap[0] == "ever":
        return steps
    return steps + [mark[0] + cap[1] for mark in marks]


def cap_stretches(cap, marks, weights, guest, amount, hour, last):
    """Where the sum of the marks and the amount would be above the cap's bound."""
    hours = None if cap[0] == "ever" else cap[1]
    given = [mark[0] for mark in marks]
    # With marks of nought at the steps too, sum and bound stay as they are from each row to the next one.
    rows = sums(marks + [(step, 0) for step in cap_steps(cap, marks, weights, guest, hour)], hours)
    ends = [row[0] - 1 for row in rows[1:]] + [last]
    found = []
    for row, end in zip(rows, ends):
        top = bound(cap, weight_at(weights, guest, row[0]))
        if top is not None and row[1] + amount > top:
            begin = row[0]
            # Where a giving stands, all hours ahead of it that its own sum goes over are shut too.
            if begin in given:
                begin = hour if hours is None else begin - hours + 1
            found.append((begin, end))
    return found


def shut_stretches(world, book, order, amount, hour, last):
    """All stretches at which the amount can't be given."""
    row = world[3][order]
    hours = giving_hours(book, order)
    marks = marks_of(world, book, order)
    found = [(given, given) for given in hours]
    found.extend(due_stretches(row, hours, hour, last))
    found.extend(gap_stretches(world, book, order))
    found.extend(age_stretches(world, book, order, hour, last))
    for cap in world[1][row[2]][2]:
        found.extend(cap_stretches(cap, marks, book[0], row[1], amount, hour, last))
    return found


def wait(world, book, order, amount, hour, last):
    """The least hour from hour to last at which the order can give the amount; None where there is none."""
    if not amount_fits(world, order, amount):
        return None
    found = hour
    # Sorted by their first hours: one that begins behind the hour found has none behind it that holds this hour.
    for stretch in sorted(shut_stretches(world, book, order, amount, hour, last)):
        if stretch[0] > found:
            break
        if stretch[1] >= found:
            found = stretch[1] + 1
    if found > last:
        return None
    return found
