"""Amounts made of pieces of given sizes, as few pieces as can be."""

from dosehouse.errors import NoPieces


def price_of(sizes, least, total):
    """The least number of pieces that come to total, by the prices of all lesser amounts; None where none do."""
    lesser = [least[total - size] for size in sizes if size <= total]
    known = [price for price in lesser if price is not None]
    if len(known) == 0:
        return None
    return min(known) + 1


def prices(sizes, amount):
    """For each number from 0 to the amount the least number of pieces that come to it, None where none do."""
    least = [0]
    for total in range(1, amount + 1):
        least.append(price_of(sizes, least, total))
    return least


def last_piece(sizes, least, rest):
    """The number of a size that can be one of the fewest pieces of rest."""
    fitting = [k for k, size in enumerate(sizes) if size <= rest and least[rest - size] == least[rest] - 1]
    return fitting[0]


def fewest(sizes, amount):
    """How many pieces of each size come to the amount, the fewest in all; NoPieces where none do."""
    least = prices(sizes, amount)
    if least[amount] is None:
        raise NoPieces(amount)
    counts = [0 for size in sizes]
    rest = amount
    # Each piece that is taken leaves a rest whose own fewest are one less, so no choice has to be undone.
    while rest > 0:
        k = last_piece(sizes, least, rest)
        counts[k] = counts[k] + 1
        rest = rest - sizes[k]
    return tuple(counts)
