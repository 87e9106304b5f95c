"""Rounds: the dues that are open or missed at an hour, and what can be given for the open ones."""

from dosehouse.books import givings_of, with_giving
from dosehouse.doses import dose
from dosehouse.dues import span, state, taper_of
from dosehouse.faults import faults
from dosehouse.pieces import fewest
from dosehouse.weights import weight_at


def due_numbers(order):
    """The numbers of the order's dues, a list."""
    dues = order[4]
    if dues[0] == "asked":
        return []
    return list(range(dues[3]))


def giving_hours(book, number):
    """The hours of an order's givings, a list."""
    return [row[0] for row in givings_of(book, number)]


def dues_in(world, book, hour, wanted):
    """The sorted list of tuples (due's hour, order, k) of the dues that are in the wanted state at the hour."""
    found = []
    for number, order in enumerate(world[3]):
        hours = giving_hours(book, number)
        for k in due_numbers(order):
            if state(order, hours, k, hour) == wanted:
                found.append((order[4][1] + k * order[4][2], number, k))
    return sorted(found)


def open_dues(world, book, hour):
    """The dues that are open at the hour."""
    return dues_in(world, book, hour, "open")


def missed_dues(world, book, hour):
    """The dues that are missed at the hour."""
    return dues_in(world, book, hour, "missed")


def next_change(world, book, hour):
    """The least later hour at which some due is in another state than an hour ahead; None where there is none."""
    changes = []
    for number, order in enumerate(world[3]):
        hours = giving_hours(book, number)
        for k in due_numbers(order):
            # What is given stays given, whatever hour is asked.
            if state(order, hours, k, hour) != "given":
                ends = span(order, k)
                changes.extend([ends[0], ends[1] + 1])
    return min([change for change in changes if change > hour], default=None)


def dose_at(world, book, number, k, hour):
    """The dose of an order's due k at the hour; None where it goes by a weight that isn't there."""
    order = world[3][number]
    rule = order[3]
    weight = weight_at(book[0], order[1], hour)
    if rule[2] != 0 and weight is None:
        return None
    taper = taper_of(order, k)
    return dose(rule, weight, taper[0], taper[1], world[1][order[2]][1][0])


def round_at(world, book, hour):
    """What a round at the hour takes, (order, k, amount), and what it holds back, (order, k, faults): two lists."""
    takes = []
    helds = []
    taken = book
    for due in open_dues(world, book, hour):
        number = due[1]
        k = due[2]
        amount = dose_at(world, book, number, k, hour)
        if amount is None:
            helds.append((number, k, [("weight", number, hour)]))
        else:
            tried = with_giving(taken, number, hour, amount)
            found = faults(world, tried)
            if found == []:
                taken = tried
                takes.append((number, k, amount))
            else:
                helds.append((number, k, found))
    return (takes, helds)


def pieces_for(world, order, amount):
    """How many pieces of each size of the order's stuff come to the amount, the fewest in all."""
    sizes = world[1][world[3][order][2]][1]
    part = sizes[0]
    # All is a multiple of the part; reckoned in parts it stays within what pieces are made for.
    return fewest(tuple([size // part for size in sizes]), amount // part)
