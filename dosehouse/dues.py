"""The dues of an order: their spans, states and tapers."""


def span(order, k):
    """The first and the last hour of due k's span."""
    dues = order[4]
    hour = dues[1] + k * dues[2]
    return (hour - dues[4], hour + dues[5])


def due_of(order, hour):
    """The number of the due in whose span the hour lies, or None."""
    dues = order[4]
    if dues[0] == "asked":
        return None
    # Spans begin every so many hours and have none in common, so one alone can hold the hour.
    behind = hour - (dues[1] - dues[4])
    k = behind // dues[2]
    if not 0 <= k < dues[3] or behind - k * dues[2] > dues[4] + dues[5]:
        return None
    return k


def astray(order, hour):
    """Whether a giving by the order at the hour is astray."""
    dues = order[4]
    if dues[0] == "asked":
        return hour < dues[1]
    return due_of(order, hour) is None


def state(order, hours, k, hour):
    """What due k is at the hour, with givings at these hours: "given", "ahead", "missed" or "open"."""
    ends = span(order, k)
    if any([ends[0] <= given <= ends[1] for given in hours]):
        return "given"
    if ends[0] > hour:
        return "ahead"
    if ends[1] < hour:
        return "missed"
    return "open"


def taper_of(order, k):
    """The fraction (num, den) by which due k is tapered."""
    found = (1, 1)
    # Tapers rise, so the last one that isn't above k is the greatest.
    for taper in order[5]:
        if taper[0] <= k:
            found = (taper[1], taper[2])
    return found
