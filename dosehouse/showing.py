"""The text of a world."""


def line_of(words):
    """A line of these words, texts and numbers."""
    return " ".join([str(word) for word in words])


def stuff_lines(stuff):
    """The lines of a stuff (name, sizes, caps, young)."""
    lines = [line_of(("stuff", stuff[0]) + stuff[1])]
    for cap in stuff[2]:
        lines.append(line_of(("cap",) + cap))
    # Each world has one text alone, so an age of 0 has no line.
    if stuff[3] != 0:
        lines.append(line_of(("young", stuff[3])))
    return lines


def order_lines(guests, stuffs, order):
    """The lines of an order (name, guest, stuff, rule, dues, tapers)."""
    lines = [
        line_of(("order", order[0], guests[order[1]][0], stuffs[order[2]][0])),
        line_of(("dose",) + order[3]),
        line_of(order[4]),
    ]
    for taper in order[5]:
        lines.append(line_of(("taper",) + taper))
    return lines


def shown(world):
    """The list of lines that is the world's text."""
    guests = world[0]
    stuffs = world[1]
    lines = [line_of(("guest",) + guest) for guest in guests]
    for stuff in stuffs:
        lines.extend(stuff_lines(stuff))
    for bar in world[2]:
        lines.append(line_of(("bar", stuffs[bar[0]][0], stuffs[bar[1]][0], bar[2])))
    for order in world[3]:
        lines.extend(order_lines(guests, stuffs, order))
    return lines
