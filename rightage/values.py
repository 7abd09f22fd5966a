"""What a number, a name, a row and a fraction are, whatever is handed in."""

LETTERS = "abcdefghijklmnopqrstuvwxyz"
NAME_LENGTH = 8


def is_number(thing):
    """Whether it is a whole number."""
    # To Python True and False are ints; in the document they are no numbers.
    return isinstance(thing, int) and not isinstance(thing, bool)


def is_number_from(thing, low, high):
    """Whether it is a number from low to high."""
    return is_number(thing) and low <= thing <= high


def is_name(thing):
    """Whether it is a text of 1 to 8 small letters."""
    if not isinstance(thing, str) or not 1 <= len(thing) <= NAME_LENGTH:
        return False
    return all([sign in LETTERS for sign in thing])


def is_row(thing, fewest, most):
    """Whether it is a tuple of so many things."""
    return isinstance(thing, tuple) and fewest <= len(thing) <= most


def is_rising(row):
    """Whether each is above the one ahead."""
    return all([ahead < behind for ahead, behind in zip(row, row[1:])])


def is_fraction(thing):
    """Whether it is (above, below) without a common divisor, below from 1 on."""
    if not is_row(thing, 2, 2) or not is_number(thing[0]) or not is_number(thing[1]):
        return False
    return thing[1] >= 1 and common_divisor(thing[0], thing[1]) == 1


def common_divisor(one, other):
    """The greatest number that divides both."""
    while other != 0:
        one, other = other, one % other
    return abs(one)


def common_multiple(one, other):
    """The least number from 1 on that both divide."""
    return one // common_divisor(one, other) * other


def fraction(above, below):
    """The fraction of both, below being from 1 on."""
    shared = common_divisor(above, below)
    return (above // shared, below // shared)


def total(fractions):
    """The fraction that all come to together."""
    told = (0, 1)
    for above, below in fractions:
        told = fraction(told[0] * below + above * told[1], told[1] * below)
    return told
