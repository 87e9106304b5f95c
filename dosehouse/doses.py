"""The dose of a rule: by weight or without, rounded, and never above its most."""

from dosehouse.parts import rounded


def dose(rule, weight, num, den, part):
    """The dose of a rule (way, top, per, most), a multiple of part; weight may be None where per is 0."""
    way = rule[0]
    top = rule[1] * num
    per = rule[2]
    most = rule[3]
    if per == 0:
        found = rounded(top, den, part, way)
    else:
        found = rounded(weight * top, per * den, part, way)
    # Rounding may lead above most, and most need not be a multiple of part itself.
    return min(found, rounded(most, 1, part, "down"))
