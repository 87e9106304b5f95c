"""The refusals of the house: one class each, all under HouseError."""


class HouseError(ValueError):
    """Any refusal."""


class NoText(HouseError):
    """Lines are no world's text; place is the number of the first line that can't stand."""

    def __init__(self, place):
        HouseError.__init__(self, place)
        self.place = place


class NoPieces(HouseError):
    """No pieces come to the amount."""

    def __init__(self, amount):
        HouseError.__init__(self, amount)
        self.amount = amount


class Twice(HouseError):
    """Something stands already where the entry would come."""

    def __init__(self, entry):
        HouseError.__init__(self, entry)
        self.entry = entry


class NoEntry(HouseError):
    """The entry that is to go or to change doesn't stand."""

    def __init__(self, entry):
        HouseError.__init__(self, entry)
        self.entry = entry


class Unsafe(HouseError):
    """The book that would come has faults."""

    def __init__(self, faults):
        # A list can be changed by whoever handed it in: a copy keeps the refusal as it was.
        kept = list(faults)
        HouseError.__init__(self, kept)
        self.faults = kept


class Torn(HouseError):
    """Two unlike entries have one mark."""

    def __init__(self, mark):
        HouseError.__init__(self, mark)
        self.mark = mark


class NoLine(HouseError):
    """The line is none that a desk answers."""

    def __init__(self, line):
        HouseError.__init__(self, line)
        self.line = line
