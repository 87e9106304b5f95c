"""The weight of a guest at an hour, by the weighings that stand."""


def weight_at(weights, guest, hour):
    """The weight of the guest's latest weighing that isn't later than the hour; None where there is none."""
    found = None
    # Weights are sorted, so of one guest's weighings the later ones come behind.
    for row in weights:
        if row[0] == guest and row[1] <= hour:
            found = row[2]
    return found
