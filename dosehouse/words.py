"""The words of a line: names and numbers."""

LETTERS = "abcdefghijklmnopqrstuvwxyz"
FIGURES = "0123456789"
LONGEST_NAME = 8
GREATEST = 1000000000
MOST_FIGURES = 10


def is_made_of(text, signs):
    """Whether each sign of the text is one of the signs."""
    # Python's own questions (islower, isdigit) would let by letters and figures of other scripts.
    return all([sign in signs for sign in text])


def is_name(text):
    """Whether the text is a name: one to eight small letters."""
    return 1 <= len(text) <= LONGEST_NAME and is_made_of(text, LETTERS)


def number_of(text):
    """The number from 0 to 1000000000 that is written, or None."""
    if not 1 <= len(text) <= MOST_FIGURES or not is_made_of(text, FIGURES):
        return None
    # Each number has one writing alone, so nothing is written with a 0 ahead of it.
    if len(text) > 1 and text[0] == "0":
        return None
    number = int(text)
    if number > GREATEST:
        return None
    return number
