"""Fractions, rounded to multiples of a part."""


def rounded(top, bottom, part, way):
    """The multiple of part to which top/bottom is rounded: "down", "up" or "near"."""
    # top/bottom is measured in steps of part, so that no fraction has to be reckoned.
    step = bottom * part
    many = top // step
    rest = top - many * step
    if way == "up" and rest > 0:
        many = many + 1
    # Strictly above the half: of two multiples that are as near, the lower is taken.
    if way == "near" and 2 * rest > step:
        many = many + 1
    return many * part
