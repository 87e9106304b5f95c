"""All that is wrong with a book in a world."""

from dosehouse.bounds import bound
from dosehouse.dues import astray, due_of
from dosehouse.weights import weight_at
from dosehouse.windows import sums


def goes_by_weight(stuff):
    """Whether one of the stuff's caps hangs on the weight."""
    return any([cap[0] == "kilo" for cap in stuff[2]])


def lone_faults(world, weights, giving):
    """The faults that the giving has by itself, whatever else is given."""
    number = giving[0]
    hour = giving[1]
    amount = giving[2]
    order = world[3][number]
    stuff = world[1][order[2]]
    kinds = []
    if astray(order, hour):
        kinds.append("astray")
    if amount > order[3][3]:
        kinds.append("most")
    if amount < 1 or amount % stuff[1][0] != 0:
        kinds.append("part")
    if goes_by_weight(stuff) and weight_at(weights, order[1], hour) is None:
        kinds.append("weight")
    if hour < world[0][order[1]][1] + stuff[3]:
        kinds.append("young")
    return [(kind, number, hour) for kind in kinds]


def marks_by_target(world, givings):
    """For each (guest, stuff) to whom and of which something is given the list of its marks (hour, amount)."""
    found = {}
    for giving in givings:
        order = world[3][giving[0]]
        found.setdefault((order[1], order[2]), []).append((giving[1], giving[2]))
    return found


def cap_faults(world, weights, givings):
    """The sums of one stuff to one guest that are above a cap's bound."""
    found = []
    for target, marks in marks_by_target(world, givings).items():
        guest = target[0]
        for k, cap in enumerate(world[1][target[1]][2]):
            hours = None if cap[0] == "ever" else cap[1]
            for row in sums(marks, hours):
                top = bound(cap, weight_at(weights, guest, row[0]))
                if top is not None and row[1] > top:
                    found.append(("cap", guest, target[1], k, row[0], row[1], top))
    return found


def gaps_by_stuffs(bars):
    """The gap of each two stuffs that bar each other, whichever of the two comes first."""
    gaps = {}
    for bar in bars:
        gaps[(bar[0], bar[1])] = bar[2]
        gaps[(bar[1], bar[0])] = bar[2]
    return gaps


def gap_between(gaps, order, other):
    """How many hours must lie between givings by the two orders."""
    if order[1] != other[1]:
        return 0
    return gaps.get((order[2], other[2]), 0)


def gap_faults(world, givings):
    """The pairs of givings to one guest that lie closer than their stuffs' gap."""
    gaps = gaps_by_stuffs(world[2])
    widest = max([bar[2] for bar in world[2]], default=0)
    rows = sorted([(giving[1], giving[0]) for giving in givings])
    found = []
    for k, row in enumerate(rows):
        for later in rows[k + 1:]:
            apart = later[0] - row[0]
            # Those behind lie farther apart still, and no gap reaches there.
            if apart >= widest:
                break
            if apart < gap_between(gaps, world[3][row[1]], world[3][later[1]]):
                found.append(("gap", row[1], row[0], later[1], later[0]))
    return found


def twice_faults(world, givings):
    """The dues in whose span two givings or more of their order lie."""
    counts = {}
    for giving in givings:
        k = due_of(world[3][giving[0]], giving[1])
        if k is not None:
            counts[(giving[0], k)] = counts.get((giving[0], k), 0) + 1
    return [("twice", due[0], due[1]) for due, many in counts.items() if many > 1]


def faults(world, book):
    """The sorted list of all faults of the book, each once."""
    weights = book[0]
    givings = book[1]
    found = cap_faults(world, weights, givings) + gap_faults(world, givings) + twice_faults(world, givings)
    for giving in givings:
        found.extend(lone_faults(world, weights, giving))
    return sorted(found)
