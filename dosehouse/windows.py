"""Sums of marks over stretches of hours."""


def sums(marks, hours):
    """A list of tuples (hour, sum), one for each hour with a mark: all marks of so many hours that end with it."""
    rows = sorted(marks)
    found = []
    total = 0
    gone = 0
    for k, row in enumerate(rows):
        total = total + row[1]
        while hours is not None and rows[gone][0] <= row[0] - hours:
            total = total - rows[gone][1]
            gone = gone + 1
        # Of several marks of one hour the last one alone has them all in its sum.
        if k + 1 == len(rows) or rows[k + 1][0] > row[0]:
            found.append((row[0], total))
    return found
