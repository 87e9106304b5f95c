"""A house: it keeps a book, and lets by just the deeds that leave it without a fault."""

from dosehouse.books import givings_of, with_giving, with_weight, without_giving, without_weight
from dosehouse.errors import NoEntry, Twice, Unsafe
from dosehouse.faults import faults


class House:
    """A house of one world, with a book that never has a fault."""

    def __init__(self, world):
        self.world = world
        self.kept = ((), ())

    def book(self):
        """The book as it stands."""
        return self.kept

    def weigh(self, guest, hour, weight):
        """A weighing comes."""
        if self.is_weighed(guest, hour):
            raise Twice((guest, hour))
        self.keep(with_weight(self.kept, guest, hour, weight))

    def unweigh(self, guest, hour):
        """A weighing goes."""
        if not self.is_weighed(guest, hour):
            raise NoEntry((guest, hour))
        self.keep(without_weight(self.kept, guest, hour))

    def give(self, order, hour, amount):
        """A giving comes."""
        if self.amount_at(order, hour) is not None:
            raise Twice((order, hour))
        self.keep(with_giving(self.kept, order, hour, amount))

    def strike(self, order, hour):
        """A giving goes."""
        if self.amount_at(order, hour) is None:
            raise NoEntry((order, hour))
        self.keep(without_giving(self.kept, order, hour))

    def amend(self, order, hour, amount):
        """A giving gets another amount."""
        if self.amount_at(order, hour) is None:
            raise NoEntry((order, hour))
        self.keep(with_giving(without_giving(self.kept, order, hour), order, hour, amount))

    def move(self, order, hour, other):
        """A giving gets another hour."""
        amount = self.amount_at(order, hour)
        if amount is None:
            raise NoEntry((order, hour))
        # The giving's own hour is no other hour: it stands there itself, and no second one.
        if other != hour and self.amount_at(order, other) is not None:
            raise Twice((order, other))
        self.keep(with_giving(without_giving(self.kept, order, hour), order, other, amount))

    def is_weighed(self, guest, hour):
        """Whether a weighing of the guest stands at the hour."""
        return (guest, hour) in [(row[0], row[1]) for row in self.kept[0]]

    def amount_at(self, order, hour):
        """The amount of the order's giving at the hour, or None where none stands."""
        for row in givings_of(self.kept, order):
            if row[0] == hour:
                return row[1]
        return None

    def keep(self, book):
        """The book is kept from now on, if it has no fault."""
        found = faults(self.world, book)
        if len(found) > 0:
            raise Unsafe(found)
        self.kept = book
