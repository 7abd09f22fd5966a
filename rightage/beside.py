"""Worlds beside worlds: with less, later, with a round told twice, under other names, and two as one."""

from rightage.bounds import ROUND, SINCE, SOURCES
from rightage.errors import BadNames, Clash, Full, Unlike
from rightage.values import is_name, is_row
from rightage.worlds import place_of, worldfault


def without(world, word, number):
    """The world without that source (word "source") or that way ("way")."""
    span, kinds, sources, ways = world
    if word == "source":
        return (span, kinds, left_out(sources, number), ways)
    return (span, kinds, sources, left_out(ways, number))


def left_out(rows, number):
    """The rows without that one."""
    return rows[:number] + rows[number + 1:]


def later(world, moments):
    """The world in which all is so many moments later."""
    span, kinds, sources, ways = world
    if any([source[3] + moments > SINCE for source in sources]):
        raise Full("a source would begin too late")
    led_sources = tuple([
        (kind, age, place_of(world, place + moments), since + moments, many)
        for kind, age, place, since, many in sources
    ])
    led_ways = tuple([with_hours(way, [place_of(world, hour + moments) for hour in way[3]]) for way in ways])
    return (span, kinds, led_sources, led_ways)


def with_hours(way, hours):
    """The way with these hours, rising."""
    kind, parts, keeps, old_hours, wait = way
    return (kind, parts, keeps, tuple(sorted(hours)), wait)


def twice(world):
    """The world whose round is told twice over."""
    span, kinds, sources, ways = world
    if 2 * span > ROUND or 2 * len(sources) > SOURCES:
        raise Full("the round or the sources would be too many")
    doubled = tuple([
        (kind, age, place + ahead, since, many)
        for kind, age, place, since, many in sources for ahead in (0, span)
    ])
    longer = tuple([with_hours(way, [hour + ahead for hour in way[3] for ahead in (0, span)]) for way in ways])
    return (2 * span, kinds, doubled, longer)


def renamed(world, names):
    """The world whose kinds, in their order, have these names."""
    span, kinds, sources, ways = world
    if not are_names(names, len(kinds)):
        raise BadNames("no tuple of as many unlike names as there are kinds")
    new = {kind: name for kind, name in zip(kinds, names)}
    new_sources = tuple([(new[source[0]],) + source[1:] for source in sources])
    new_ways = tuple([renamed_way(way, new) for way in ways])
    return (span, tuple(sorted(names)), new_sources, new_ways)


def are_names(thing, many):
    """Whether it is a tuple of so many unlike names."""
    if not is_row(thing, many, many) or not all([is_name(name) for name in thing]):
        return False
    return len(set(thing)) == many


def renamed_way(way, new):
    """The way with the new names in the places of the old ones."""
    kind, parts, keeps, hours, wait = way
    new_parts = tuple([(new[part], least, greatest) for part, least, greatest in parts])
    return (new[kind], new_parts, keeps, hours, wait)


def joined(one, other):
    """Both worlds side by side."""
    if one[0] != other[0]:
        raise Unlike("the rounds are unlike")
    shared = [kind for kind in one[1] if kind in other[1]]
    if shared:
        raise Clash(shared[0])
    whole = (one[0], tuple(sorted(one[1] + other[1])), one[2] + other[2], one[3] + other[3])
    if worldfault(whole) is not None:
        raise Full("there would be too many kinds, sources or ways")
    return whole
