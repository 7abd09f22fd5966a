"""The least table: what can be had at all, and from when on."""

from rightage.bounds import READY, WAIT
from rightage.walks import ages_in, at_the_beginning, stepped
from rightage.worlds import first_of, place_of


def table(world):
    """The shut table that is within every shut one."""
    cells = [[[None] * (READY + 1) for place in range(world[0])] for kind in world[1]]
    seen = [[0 for kind in world[1]] for place in range(world[0])]
    beginnings = [first_of(world, source) for source in range(len(world[2]))]
    state = at_the_beginning(world)
    moment = quiet = 0
    while quiet < WAIT or moment <= max(beginnings, default=-1):
        if quiet >= WAIT:
            moment = skipped(world, moment, beginnings)
        state, fresh = stepped(world, moment, state, ())
        news = entered(world, cells, seen[place_of(world, moment)], moment, state[0])
        quiet = 0 if news else quiet + 1
        moment += 1
    return tuple([tuple([tuple(row) for row in rows]) for rows in cells])


def skipped(world, moment, beginnings):
    """A moment some rounds later, as far as no source begins ahead of it."""
    # Once so many moments as the longest wait were each as a round ahead, all are until a source begins.
    coming = min([first for first in beginnings if first >= moment])
    return moment + (coming - moment) // world[0] * world[0]


def entered(world, cells, seen, moment, there):
    """Whether things have ages that none had a round ahead; their origins are put into the cells."""
    news = False
    for k, bits in enumerate(there):
        for age in ages_in(bits & ~seen[k]):
            cells[k][place_of(world, moment - age)][age] = moment - age
            news = True
        seen[k] |= bits
    return news


def ready(world, kind, origin):
    """The least age at which a thing of that kind and origin can be there, or None."""
    for age, cell in enumerate(row_of(world, kind, origin)):
        if cell is not None and cell <= origin:
            return age
    return None


def last_age(world, kind, place):
    """(age, origin): the least age by which things of that place can be had, and the first that can; or None."""
    for age, cell in enumerate(row_of(world, kind, place)):
        if cell is not None:
            return (age, cell)
    return None


def row_of(world, kind, origin):
    """What stands in the least table for the kind and the origin's place, age by age."""
    return table(world)[world[1].index(kind)][place_of(world, origin)]
