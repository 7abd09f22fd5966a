"""Worlds: their first fault, and what sources and ways do at a moment."""

from rightage.bounds import KINDS, MANY, OLD, PARTS, ROUND, SINCE, SOURCES, WAIT, WAYS
from rightage.values import is_name, is_number_from, is_rising, is_row


def worldfault(thing):
    """None of a world, else the first fault as (path, word)."""
    if not is_row(thing, 4, 4):
        return ((), "world")
    span, kinds, sources, ways = thing
    if not is_number_from(span, 1, ROUND):
        return ((0,), "round")
    return kinds_fault(kinds) or sources_fault(span, kinds, sources) or ways_fault(span, kinds, ways)


def kinds_fault(kinds):
    """The first fault of the kinds, or None."""
    if not is_row(kinds, 1, KINDS):
        return ((1,), "kinds")
    for k, kind in enumerate(kinds):
        # The one ahead is a name by now, so both can be compared.
        if not is_name(kind) or (k > 0 and kind <= kinds[k - 1]):
            return ((1, k), "name")
    return None


def sources_fault(span, kinds, sources):
    """The first fault of the sources, or None."""
    if not is_row(sources, 0, SOURCES):
        return ((2,), "sources")
    for k, source in enumerate(sources):
        fault = source_fault(span, kinds, source)
        if fault is not None:
            return fault_below((2, k), fault)
    return None


def source_fault(span, kinds, source):
    """The first fault of a source, its path from the source on, or None."""
    if not is_row(source, 5, 5):
        return ((), "source")
    kind, age, place, since, many = source
    if kind not in kinds:
        return ((0,), "kind")
    if not is_number_from(age, 0, OLD):
        return ((1,), "age")
    if not is_number_from(place, 0, span - 1):
        return ((2,), "place")
    if not is_number_from(since, 0, SINCE):
        return ((3,), "since")
    if not is_number_from(many, 1, MANY):
        return ((4,), "many")
    return None


def ways_fault(span, kinds, ways):
    """The first fault of the ways, or None."""
    if not is_row(ways, 0, WAYS):
        return ((3,), "ways")
    for k, way in enumerate(ways):
        fault = way_fault(span, kinds, way)
        if fault is not None:
            return fault_below((3, k), fault)
    return None


def way_fault(span, kinds, way):
    """The first fault of a way, its path from the way on, or None."""
    if not is_row(way, 5, 5):
        return ((), "way")
    kind, parts, keeps, hours, wait = way
    if kind not in kinds:
        return ((0,), "kind")
    fault = parts_fault(kinds, parts)
    if fault is not None:
        return fault_below((1,), fault)
    if keeps not in ("oldest", "youngest"):
        return ((2,), "keeps")
    if not is_hours(span, hours):
        return ((3,), "hours")
    if not is_number_from(wait, 1, WAIT):
        return ((4,), "wait")
    return None


def parts_fault(kinds, parts):
    """The first fault of a way's parts, its path from the parts on, or None."""
    if not is_row(parts, 1, PARTS):
        return ((), "parts")
    for j, part in enumerate(parts):
        fault = part_fault(kinds, part)
        if fault is not None:
            return fault_below((j,), fault)
    return None


def part_fault(kinds, part):
    """The first fault of a part, its path from the part on, or None."""
    if not is_row(part, 3, 3):
        return ((), "part")
    kind, least, greatest = part
    if kind not in kinds:
        return ((0,), "kind")
    if not is_number_from(least, 0, OLD):
        return ((1,), "least")
    if not is_number_from(greatest, least, OLD):
        return ((2,), "greatest")
    return None


def is_hours(span, hours):
    """Whether it is a rising tuple of places."""
    if not is_row(hours, 0, span):
        return False
    return all([is_number_from(hour, 0, span - 1) for hour in hours]) and is_rising(hours)


def fault_below(path, fault):
    """The fault with this path ahead of its own."""
    inner, word = fault
    return (path + inner, word)


def place_of(world, number):
    """What is left of a number when it is divided by the round."""
    return number % world[0]


def brings(world, source, moment):
    """Whether that source brings at that moment."""
    kind, age, place, since, many = world[2][source]
    return moment >= since and place_of(world, moment) == place


def opens(world, way, moment):
    """Whether that way is open at that moment."""
    kind, parts, keeps, hours, wait = world[3][way]
    return place_of(world, moment) in hours


def first_of(world, source):
    """The first moment at which that source brings."""
    kind, age, place, since, many = world[2][source]
    return since + place_of(world, place - since)


def bears(world, way, moment, origins):
    """(origin, born) of what is made then of parts of these origins."""
    kind, parts, keeps, hours, wait = world[3][way]
    origin = min(origins) if keeps == "oldest" else max(origins)
    return (origin, moment + wait)
