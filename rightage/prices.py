"""Price lists: prices under which no waiting and no making gains."""

from rightage.bounds import SPENT
from rightage.steady import choices, refuse_want
from rightage.values import fraction, is_fraction, is_row, total
from rightage.worlds import bears, place_of


def prices_hold(world, want, number, thing):
    """Whether it is a price list for the want whose worth is that."""
    refuse_want(world, want)
    return is_price_list(world, want, thing) and worth(world, thing) == number


def is_price_list(world, want, thing):
    """Whether it is a price list for the want, whatever its worth."""
    span, kinds, sources, ways = world
    if not is_row(thing, len(kinds), len(kinds)) or not all([is_row(rows, span, span) for rows in thing]):
        return False
    if not all([is_price_row(row) for rows in thing for row in rows]):
        return False
    if any([gains(world, thing, way) for way in range(len(ways))]):
        return False
    kind, least, greatest = want
    return not any([
        is_below(price(world, thing, kind, place, age), (1, 1))
        for place in range(span) for age in range(least, greatest + 1)
    ])


def is_price_row(row):
    """Whether it can stand for a place: for each age a fraction from 0 on, never rising."""
    if not is_row(row, SPENT + 1, SPENT + 1):
        return False
    if not all([is_fraction(cell) and cell[0] >= 0 for cell in row]):
        return False
    return not any([is_below(ahead, behind) for ahead, behind in zip(row, row[1:])])


def is_below(one, other):
    """Whether the one fraction is below the other."""
    return one[0] * other[1] < other[0] * one[1]


def price(world, prices, kind, origin, age):
    """The price of the kind at that age, of the origin's place."""
    return prices[world[1].index(kind)][place_of(world, origin)][age]


def gains(world, prices, way):
    """Whether something that is made by that way is dearer than its parts."""
    kind, parts, keeps, hours, wait = world[3][way]
    return any([
        is_dearer(world, prices, way, place, ages)
        for place in hours for ages in choices(parts)
    ])


def is_dearer(world, prices, way, place, ages):
    """Whether what is made there of parts of these ages is dearer than they are together."""
    kind, parts, keeps, hours, wait = world[3][way]
    paid = total([price(world, prices, part[0], place - age, age) for part, age in zip(parts, ages)])
    origin, born = bears(world, way, place, [place - age for age in ages])
    return is_below(paid, price(world, prices, kind, origin, born - origin))


def worth(world, prices):
    """What all that the sources bring each round comes to under the price list."""
    told = []
    for kind, age, place, since, many in world[2]:
        above, below = price(world, prices, kind, place - age, age)
        told.append(fraction(many * above, below))
    return total(told)
