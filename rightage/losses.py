"""What is lost where just one bringing is."""

from rightage.bounds import LOST, READY, WAIT
from rightage.errors import NoBringing, TooMany
from rightage.least import table as least_table
from rightage.tables import has
from rightage.walks import ages_in, at_the_beginning, come_behind, stepped
from rightage.worlds import brings


def lost(world, source, moment):
    """(kind, origin, age, later), rising: what can be had only later without that bringing, or never."""
    if not brings(world, source, moment):
        raise NoBringing(source, moment)
    whole = lacking = state_behind(world, moment - 1)
    missed = ((source, moment),)
    # (kind, origin) -> (age, later)
    told = {}
    now = moment
    while now == moment or whole != lacking:
        whole, fresh = stepped(world, now, whole, ())
        lacking, fresh_lacking = stepped(world, now, lacking, missed)
        enter_lost(world, told, now, fresh, lacking[0])
        enter_later(world, told, now, fresh_lacking)
        if len(told) > LOST:
            raise TooMany(LOST)
        now += 1
    return tuple(sorted([(kind, origin) + told[kind, origin] for kind, origin in told]))


def state_behind(world, moment):
    """The state of a walk behind that moment, however far that is."""
    least = least_table(world)
    there, coming = at_the_beginning(world)
    # What was made ahead of these moments is born by now.
    for now in range(moment - WAIT + 1, moment + 1):
        there = [there_then(world, least, kind, now) for kind in world[1]]
        coming = come_behind(world, now, there, coming)
    return (there, coming)


def there_then(world, least, kind, moment):
    """The ages, as bits, that things of that kind have at the moment."""
    return sum([1 << age for age in range(READY + 1) if has(world, least, kind, moment - age, age)])


def enter_lost(world, told, moment, fresh, there):
    """What is born at the moment and isn't there without the bringing is lost, for the present for ever."""
    for kind, bits, others in zip(world[1], fresh, there):
        for age in ages_in(bits & ~others):
            told[(kind, moment - age)] = (age, None)


def enter_later(world, told, moment, fresh):
    """What is lost and is born at the moment without the bringing only comes later."""
    for kind, bits in zip(world[1], fresh):
        for age in ages_in(bits):
            if (kind, moment - age) in told:
                told[(kind, moment - age)] = (told[(kind, moment - age)][0], age)
