"""Steady rows: how much of things that are used up can be had each round, for ever."""

from rightage.bounds import SPENT
from rightage.errors import BadWish, NotNarrow
from rightage.leaks import is_choice
from rightage.values import common_multiple, is_fraction, is_number_from, is_row, total
from rightage.wishes import item_word
from rightage.worlds import bears, place_of

NARROW_ROUND = 2
NARROW_KINDS = 3
NARROW_AGE = 5
NARROW_PARTS = 2
NARROW_WAIT = 2


def is_narrow(world):
    """Whether it is small enough to be asked how much can be had."""
    span, kinds, sources, ways = world
    if span > NARROW_ROUND or len(kinds) > NARROW_KINDS:
        return False
    if any([source[1] > NARROW_AGE for source in sources]):
        return False
    return all([is_narrow_way(way) for way in ways])


def is_narrow_way(way):
    """Whether a narrow world may have it."""
    kind, parts, keeps, hours, wait = way
    if len(parts) > NARROW_PARTS or wait > NARROW_WAIT:
        return False
    return all([part[2] <= NARROW_AGE for part in parts])


def refuse_want(world, want):
    """NotNarrow of a world that isn't, then BadWish of what is no want."""
    if not is_narrow(world):
        raise NotNarrow("the world isn't narrow")
    word = item_word(world, want, SPENT)
    if word is not None:
        raise BadWish(0, word)


def choices(parts):
    """All choices of ages that the parts may have."""
    told = [()]
    for kind, least, greatest in parts:
        told = [ages + (age,) for ages in told for age in range(least, greatest + 1)]
    return told


def steady_holds(world, want, number, thing):
    """Whether it is a steady row for the want that is kept up and yields that."""
    refuse_want(world, want)
    return is_steady(world, want, thing) and is_kept_up(world, want, thing) and yields(thing) == number


def is_steady(world, want, thing):
    """Whether it is a steady row for the want, kept up or not."""
    if not isinstance(thing, tuple) or not all([is_make(world, row) or is_take(world, want, row) for row in thing]):
        return False
    return len({row[:-1] for row in thing}) == len(thing)


def is_make(world, row):
    """Whether it has the form of a make."""
    if not is_row(row, 5, 5) or row[0] != "make" or not is_number_from(row[1], 0, len(world[3]) - 1):
        return False
    return is_choice(world, row[1], row[2], row[3]) and is_share(row[4])


def is_take(world, want, row):
    """Whether it has the form of a take for the want."""
    if not is_row(row, 4, 4) or row[0] != "take" or not is_number_from(row[1], 0, world[0] - 1):
        return False
    kind, least, greatest = want
    return is_number_from(row[2], least, greatest) and is_share(row[3])


def is_share(thing):
    """Whether it is a fraction above 0."""
    return is_fraction(thing) and thing[0] > 0


def is_kept_up(world, want, steady):
    """Whether at no age more is used than comes by then."""
    # Where so many times as much comes and is used, all is in whole numbers.
    many_times = times(steady)
    stuff = {}
    for kind, age, place, since, many in world[2]:
        put(world, stuff, kind, place - age, age, many * many_times)
    for row in steady:
        above, below = row[-1]
        enter(world, want, stuff, row, above * (many_times // below))
    return all([is_never_short(stuff[key]) for key in stuff])


def enter(world, want, stuff, row, amount):
    """What a row uses goes out of the stuff, what it makes comes in."""
    if row[0] == "take":
        word, place, age, share = row
        put(world, stuff, want[0], place - age, age, -amount)
        return
    word, way, place, ages, share = row
    for part, age in zip(world[3][way][1], ages):
        put(world, stuff, part[0], place - age, age, -amount)
    origin, born = bears(world, way, place, [place - age for age in ages])
    put(world, stuff, world[3][way][0], origin, born - origin, amount)


def put(world, stuff, kind, origin, age, amount):
    """So much more of the kind, at the origin's place, at that age."""
    rows = stuff.setdefault((kind, place_of(world, origin)), [0] * (SPENT + 1))
    rows[age] += amount


def is_never_short(amounts):
    """Whether the amounts up to each age are together not below 0."""
    left = 0
    for amount in amounts:
        left += amount
        if left < 0:
            return False
    return True


def yields(steady):
    """What its takes have together."""
    return total([row[-1] for row in steady if row[0] == "take"])


def times(steady):
    """The least number by which all its shares come to whole numbers."""
    told = 1
    for row in steady:
        told = common_multiple(told, row[-1][1])
    return told
