"""Books: weighings and givings, each laid in or taken out by telling another book."""


def laid_in(rows, row):
    """The rows with one more, sorted."""
    return tuple(sorted(rows + (row,)))


def taken_out(rows, number, hour):
    """The rows without the one that begins with this number and hour."""
    return tuple([row for row in rows if row[0] != number or row[1] != hour])


def with_giving(book, order, hour, amount):
    """The book with this giving, where none of the order stands at the hour."""
    return (book[0], laid_in(book[1], (order, hour, amount)))


def without_giving(book, order, hour):
    """The book without the order's giving at the hour."""
    return (book[0], taken_out(book[1], order, hour))


def with_weight(book, guest, hour, weight):
    """The book with this weighing, where none of the guest stands at the hour."""
    return (laid_in(book[0], (guest, hour, weight)), book[1])


def without_weight(book, guest, hour):
    """The book without the guest's weighing at the hour."""
    return (taken_out(book[0], guest, hour), book[1])


def givings_of(book, order):
    """The list of tuples (hour, amount) of the order's givings, rising."""
    # Givings are sorted, so those of one order rise by their hours.
    return [(row[1], row[2]) for row in book[1] if row[0] == order]
