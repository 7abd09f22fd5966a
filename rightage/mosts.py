"""How much can be had each round, for ever: a steady row and a price list that meet.

Stuff that has a kind, a place of origins and an age has a number. An act is (row, flows, gain): row what stands
of it in a steady row ahead of the share, or None where the stuff only waits; flows (stuff, amount) for what is
used by so much as 1 of it, below 0 for what comes of it; gain how much of it is taken.

A stand is (rows, gains, acting, scale): what the simplex method has come to, all numbers so many times as great
as scale tells, so that they are whole. For each stuff there is a row and the number of the act, or None, whose share
the row tells: first the share, then by how much it would be more if of each stuff 1 more came. gains is such a row
for all that is taken; so behind its first number the prices stand.
"""

from rightage.bounds import SPENT
from rightage.steady import choices, refuse_want
from rightage.values import fraction
from rightage.worlds import bears, place_of


def most(world, want):
    """(number, steady, prices): how much of the want can be had, a steady row that yields it, prices that bar more."""
    refuse_want(world, want)
    acts = takes_of(world, want) + makes_of(world) + waits_of(world)
    rows, gains, acting, scale = best_stand(acts, first_stand(world))
    steady = tuple([
        acts[number][0] + (fraction(row[0], scale),)
        for number, row in zip(acting, rows) if number is not None and acts[number][0] is not None and row[0] > 0
    ])
    return (fraction(gains[0], scale), steady, price_list(world, gains[1:], scale))


def stuff_of(world, kind, origin, age):
    """The number of the stuff of that kind and age whose origin has this one's place."""
    return (world[1].index(kind) * world[0] + place_of(world, origin)) * (SPENT + 1) + age


def takes_of(world, want):
    """The acts that take of the want."""
    kind, least, greatest = want
    return [
        (("take", place, age), [(stuff_of(world, kind, place - age, age), 1)], 1)
        for place in range(world[0]) for age in range(least, greatest + 1)
    ]


def makes_of(world):
    """The acts that make."""
    return [
        (("make", way, place, ages), flows_of(world, way, place, ages), 0)
        for way in range(len(world[3])) for place in world[3][way][3] for ages in choices(world[3][way][1])
    ]


def flows_of(world, way, place, ages):
    """What is used by that way at that place of parts of these ages, and what comes of it."""
    kind, parts, keeps, hours, wait = world[3][way]
    flows = [(stuff_of(world, part[0], place - age, age), 1) for part, age in zip(parts, ages)]
    origin, born = bears(world, way, place, [place - age for age in ages])
    return flows + [(stuff_of(world, kind, origin, born - origin), -1)]


def waits_of(world):
    """The acts by which stuff is one moment older."""
    return [
        (None, [(stuff_of(world, kind, place, age), 1), (stuff_of(world, kind, place, age + 1), -1)], 0)
        for kind in world[1] for place in range(world[0]) for age in range(SPENT)
    ]


def first_stand(world):
    """The stand in which nothing is done."""
    many_stuffs = len(world[1]) * world[0] * (SPENT + 1)
    coming = [0] * many_stuffs
    for kind, age, place, since, many in world[2]:
        coming[stuff_of(world, kind, place - age, age)] += many
    rows = [
        [coming[stuff]] + [1 if beside == stuff else 0 for beside in range(many_stuffs)]
        for stuff in range(many_stuffs)
    ]
    return (rows, [0] * (many_stuffs + 1), [None] * many_stuffs, 1)


def best_stand(acts, stand):
    """The stand in which no act would gain any more."""
    while True:
        rows, gains, acting, scale = stand
        surpluses = [gain * scale - flowing(gains, flows) for row, flows, gain in acts]
        best = max(surpluses)
        if best <= 0:
            return stand
        stand = stand_with(stand, acts, surpluses.index(best), best)


def flowing(row, flows):
    """What the flows come to by that row."""
    return sum([row[stuff + 1] * amount for stuff, amount in flows])


def stand_with(stand, acts, number, surplus):
    """The stand in which as much of that act is done as can be, in the place of what runs out by it."""
    rows, gains, acting, scale = stand
    slopes = [flowing(row, acts[number][1]) for row in rows]
    out = first_out(rows, slopes)
    pivot, slope = rows[out], slopes[out]
    new_rows = [
        row if k == out else turned(row, slope, pivot, slopes[k], scale)
        for k, row in enumerate(rows)
    ]
    new_acting = acting[:out] + [number] + acting[out + 1:]
    return (new_rows, turned(gains, slope, pivot, -surplus, scale), new_acting, slope)


def turned(row, slope, pivot, amount, scale):
    """The row without so much of the pivot, in numbers as many times as great as slope tells."""
    if amount == 0 and slope == scale:
        return row
    # The divisions leave no rest: all these numbers are determinants.
    return [(cell * slope - amount * beside) // scale for cell, beside in zip(row, pivot)]


def first_out(rows, slopes):
    """The number of the row that runs out first."""
    out = None
    for k, slope in enumerate(slopes):
        if slope > 0 and (out is None or runs_out_ahead(rows[k], slope, rows[out], slopes[out])):
            out = k
    return out


def runs_out_ahead(row, slope, other, other_slope):
    """Whether the row, by its slope, is below the other by the first number in which they differ."""
    # Were only the shares held against each other, of which many are 0, the stands could go in a circle.
    return [cell * other_slope for cell in row] < [cell * slope for cell in other]


def price_list(world, prices, scale):
    """The price list, for each kind, place and age, of prices by the numbers of stuff."""
    return tuple([
        tuple([
            tuple([fraction(prices[stuff_of(world, kind, place, age)], scale) for age in range(SPENT + 1)])
            for place in range(world[0])
        ])
        for kind in world[1]
    ])
