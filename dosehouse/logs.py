"""Logs of several hands, merged, and the one book that they make."""

from dosehouse.errors import Torn
from dosehouse.faults import faults


def merged(log, other):
    """The sorted list of all entries of both logs, each once; Torn where two unlike entries have one mark."""
    kept = {}
    torn = []
    for entry in log + other:
        mark = entry[0]
        if mark not in kept:
            kept[mark] = entry
        if kept[mark] != entry:
            torn.append(mark)
    if len(torn) > 0:
        raise Torn(min(torn))
    # Each mark stands for one entry, so the marks alone sort them.
    return [kept[mark] for mark in sorted(kept)]


def deeds_of(entries, word):
    """The deeds that begin with the word, by their marks."""
    found = {}
    for entry in entries:
        if entry[1][0] == word:
            found[entry[0]] = entry[1]
    return found


def standing(entries, word):
    """The list of tuples (mark, deed) that begin with the word and aren't struck, the least mark first, each once."""
    deeds = deeds_of(entries, word)
    struck = [deed[1] for deed in deeds_of(entries, "strike").values()]
    return [(mark, deeds[mark]) for mark in sorted(deeds) if mark not in struck]


def giving_rows(log):
    """The book's givings."""
    amended = {}
    # The greatest mark comes last, so its amount is the one that stays.
    for entry in standing(log, "amend"):
        amended[entry[1][1]] = entry[1][2]
    totals = {}
    for entry in standing(log, "give"):
        deed = entry[1]
        place = (deed[1], deed[2])
        totals[place] = totals.get(place, 0) + amended.get(entry[0], deed[3])
    return tuple([(place[0], place[1], totals[place]) for place in sorted(totals)])


def weight_rows(log):
    """The book's weighings."""
    found = {}
    for entry in standing(log, "weigh"):
        deed = entry[1]
        found[(deed[1], deed[2])] = deed[3]
    return tuple([(place[0], place[1], found[place]) for place in sorted(found)])


def book_of(log):
    """The book that the log makes."""
    return (weight_rows(log), giving_rows(log))


def alarms(world, log):
    """The faults of the log's book."""
    return faults(world, book_of(log))
