"""Leaks: what leads out of a table, and tables that nothing leads out of."""

from rightage.tables import first_there, has, is_table
from rightage.values import is_number, is_number_from, is_row
from rightage.worlds import bears, first_of


def leak_holds(world, table, thing):
    """Whether it is a leak of the table."""
    if is_brought_form(world, thing):
        return is_brought_leak(world, table, thing[1])
    if is_made_form(world, thing):
        word, way, place, ages = thing
        return is_made_leak(world, table, way, place, ages)
    return False


def is_brought_form(world, thing):
    """Whether it is ("brought", a source's number)."""
    if not is_row(thing, 2, 2) or thing[0] != "brought":
        return False
    return is_number_from(thing[1], 0, len(world[2]) - 1)


def is_made_form(world, thing):
    """Whether it is ("made", a way's number, one of its hours, ages that its parts may have)."""
    if not is_row(thing, 4, 4) or thing[0] != "made" or not is_number_from(thing[1], 0, len(world[3]) - 1):
        return False
    return is_choice(world, thing[1], thing[2], thing[3])


def is_choice(world, way, place, ages):
    """Whether place is one of that way's hours and ages are ones that its parts may have."""
    kind, parts, keeps, hours, wait = world[3][way]
    # Python takes True for 1, so that being among the hours isn't enough.
    if not is_number(place) or place not in hours:
        return False
    if not is_row(ages, len(parts), len(parts)):
        return False
    return all([is_number_from(age, least, greatest) for age, (part, least, greatest) in zip(ages, parts)])


def is_brought_leak(world, table, source):
    """Whether the table hasn't what that source brings first."""
    kind, age, place, since, many = world[2][source]
    return not has(world, table, kind, first_of(world, source) - age, age)


def is_made_leak(world, table, way, place, ages):
    """Whether the table has the parts of these ages at a moment of that place, and not what is made of them."""
    kind, parts, keeps, hours, wait = world[3][way]
    moments = [first_there(world, table, part[0], place, age) for part, age in zip(parts, ages)]
    if None in moments:
        return False
    # What a table has it has a round later, too: if what is made is lacking at all, it is at the first moment.
    moment = max(moments)
    origin, born = bears(world, way, moment, [moment - age for age in ages])
    return not has(world, table, kind, origin, born - origin)


def leak(world, table):
    """Some leak of the table, or None."""
    for source in range(len(world[2])):
        if is_brought_leak(world, table, source):
            return ("brought", source)
    for k, way in enumerate(world[3]):
        for place in way[3]:
            ages = leaking_ages(world, table, k, place)
            if ages is not None:
                return ("made", k, place, ages)
    return None


def leaking_ages(world, table, way, place):
    """Ages of the way's parts by which it leaks at moments of that place, or None."""
    kind, parts, keeps, hours, wait = world[3][way]
    options = [part_options(world, table, part, place) for part in parts]
    for j, rows in enumerate(options):
        for moment, age in rows:
            ages = ages_beside(keeps, options, j, age)
            if ages is not None and is_made_leak(world, table, way, place, ages):
                return ages
    return None


def part_options(world, table, part, place):
    """(moment, age) for each age of the part that the table has at moments of that place, from that moment on."""
    kind, least, greatest = part
    firsts = [(first_there(world, table, kind, place, age), age) for age in range(least, greatest + 1)]
    return [(moment, age) for moment, age in firsts if moment is not None]


def ages_beside(keeps, options, handing, age):
    """Ages of the parts, there as early as can be, where the handing part has this age and hands it on; or None."""
    # What is made depends on the moment and on this age alone, so the earliest others are enough.
    told = []
    for j, rows in enumerate(options):
        beside = [row for row in rows if (row[1] <= age if keeps == "oldest" else row[1] >= age)]
        if not beside:
            return None
        told.append(age if j == handing else min(beside)[1])
    return tuple(told)


def is_shut(world, thing):
    """Whether it is a table without a leak."""
    return is_table(world, thing) and leak(world, thing) is None
