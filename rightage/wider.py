"""Wider windows: the greatest age of one part, and what can be had by it."""

from rightage.bounds import OLD
from rightage.least import table as least_table
from rightage.tables import has
from rightage.wishes import first_wish, refuse_no_wish


def widened(world, way, part, greatest):
    """The world in which that part of that way has this greatest age."""
    kind, least, old_greatest = world[3][way][1][part]
    return with_part(world, way, part, (kind, least, greatest))


def with_part(world, way, part, new):
    """The world in which this stands in the place of that part of that way."""
    span, kinds, sources, ways = world
    kind, parts, keeps, hours, wait = ways[way]
    changed = (kind, parts[:part] + (new,) + parts[part + 1:], keeps, hours, wait)
    return (span, kinds, sources, ways[:way] + (changed,) + ways[way + 1:])


def enough(world, way, part, wish):
    """The least greatest age of that part by which the wish comes at some moment, or None."""
    refuse_no_wish(world, wish)
    return first_greatest(world, way, part, lambda wider: first_wish(wider, wish) is not None)


def windows(world, way, part, seen, unseen):
    """(low, high): the least and the greatest of all greatest ages of that part by which each of seen can be had
    and none of unseen; or None.
    """
    low = first_greatest(world, way, part, lambda wider: False not in had_of(wider, seen))
    beyond = first_greatest(world, way, part, lambda wider: True in had_of(wider, unseen))
    high = OLD if beyond is None else beyond - 1
    return None if low is None or low > high else (low, high)


def had_of(world, rows):
    """For each (kind, origin, age) whether it can be had."""
    least = least_table(world)
    return [has(world, least, kind, origin, age) for kind, origin, age in rows]


def first_greatest(world, way, part, does):
    """The least greatest age of that part by which the world does, or None; where it does, a wider one does, too."""
    low = world[3][way][1][part][1]
    high = OLD + 1
    while low < high:
        middle = (low + high) // 2
        if does(widened(world, way, part, middle)):
            high = middle
        else:
            low = middle + 1
    return None if low > OLD else low
