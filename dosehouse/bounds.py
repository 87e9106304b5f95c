"""The bound that a cap sets."""


def bound(cap, weight):
    """The greatest sum that the cap lets by with this weight; None where it hangs on a weight and there is none."""
    if cap[0] == "ever":
        return cap[1]
    if cap[0] == "flat":
        return cap[2]
    if weight is None:
        return None
    return weight * cap[2] // cap[3]
