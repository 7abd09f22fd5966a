"""What a number, a name and a row are, whatever is handed in."""

LETTERS = "abcdefghijklmnopqrstuvwxyz"
NAME_LENGTH = 8


def is_number(thing):
    """Whether it is a whole number."""
    # To Python True and False are ints; in the document they are no numbers.
    return isinstance(thing, int) and not isinstance(thing, bool)


def is_number_from(thing, low, high):
    """Whether it is a number from low to high."""
    return is_number(thing) and low <= thing <= high


def is_name(thing):
    """Whether it is a text of 1 to 8 small letters."""
    if not isinstance(thing, str) or not 1 <= len(thing) <= NAME_LENGTH:
        return False
    return all([sign in LETTERS for sign in thing])


def is_row(thing, fewest, most):
    """Whether it is a tuple of so many things."""
    return isinstance(thing, tuple) and fewest <= len(thing) <= most


def is_rising(row):
    """Whether each is above the one ahead."""
    return all([ahead < behind for ahead, behind in zip(row, row[1:])])
