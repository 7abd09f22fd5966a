"""Halls, deeds, and all that a hall tells, for the tests of halls and desks."""

from rightage.halls import Hall
from rightage.least import ready, table
from rightage.mosts import most
from rightage.unlike import lacks
from rightage.verdicts import verdict
from rightage.wishes import first_wish
from tests.samples import HUGE, replaced

# Narrow, so that all can be asked of it.
WORLD = (
    2, ("ale", "bun", "cod"),
    (("ale", 0, 0, 0, 4), ("bun", 3, 1, 5, 2)),
    (
        ("cod", (("ale", 1, 3), ("bun", 2, 5)), "oldest", (0, 1), 2),
        ("bun", (("ale", 2, 5),), "youngest", (1,), 1),
        ("ale", (("cod", 0, 5), ("cod", 5, 5)), "youngest", (), 1),
    ),
)
SOURCE = ("ale", 1, 1, 3, 9)
WAY = ("ale", (("bun", 4, 5),), "oldest", (0,), 1)

# One deed of each word, that can be done in this order.
DEEDS_DONE = (
    ("bring", SOURCE), ("way", WAY), ("hours", 2, (0, 1)), ("window", 0, 1, 3, 4), ("stop", 0), ("shut", 1),
)

NO_NUMBERS = (None, True, False, "0", "", [0], (0,), (), {}, {"a": 0}, [], -1, -HUGE, HUGE)


def do(hall, deed):
    """The deed is done by the method of its name."""
    word, *handed = deed
    if word == "bring":
        return hall.bring(*handed)
    if word == "way":
        return hall.way(*handed)
    if word == "stop":
        return hall.stop(*handed)
    if word == "shut":
        return hall.shut(*handed)
    if word == "hours":
        return hall.hours(*handed)
    if word == "window":
        return hall.window(*handed)
    raise AssertionError(word)


def world_behind(world, deed):
    """The world behind a deed that can be done."""
    word, *handed = deed
    span, kinds, sources, ways = world
    if word == "bring":
        return (span, kinds, sources + tuple(handed), ways)
    if word == "way":
        return (span, kinds, sources, ways + tuple(handed))
    rows = list(ways)
    if word == "stop":
        rows = list(sources)
        del rows[handed[0]]
        return (span, kinds, tuple(rows), ways)
    if word == "shut":
        del rows[handed[0]]
        return (span, kinds, sources, tuple(rows))
    if word == "hours":
        return replaced(world, (3, handed[0], 3), handed[1])
    return replaced(replaced(world, (3, handed[0], 1, handed[1], 1), handed[2]), (3, handed[0], 1, handed[1], 2), handed[3])


def full_hall(world=WORLD):
    """A hall with as many deeds as can stand."""
    hall = Hall(world)
    while len(hall) < 40:
        hall.hours(0, (len(hall) % 2,))
    return hall


def state(hall):
    """All that doesn't change where a deed is refused."""
    return (hall.world(), hall.deeds(), len(hall), str(hall), hall.changed(), hall.log())


def asked(hall):
    """All that can be asked of the hall."""
    kinds = hall.world()[1]
    return (
        state(hall), hall.table(), [hall.ready(kind, 4) for kind in kinds], [hall.verdict(kind, 4, 6) for kind in kinds],
        hall.first(((kinds[0], 0, 9), (kinds[-1], 2, 60))), hall.most((kinds[-1], 0, 7)))


def asked_by_functions(world, ahead, deeds, log):
    """The same, by the functions of these names; ahead is the world ahead of the last deed, or None."""
    span, kinds, sources, ways = world
    line = f"{len(kinds)} kinds, {len(sources)} sources, {len(ways)} ways, {len(deeds)} deeds"
    changed = () if ahead is None else lacks(ahead, world)
    return (
        (world, deeds, len(deeds), line, changed, log), table(world), [ready(world, kind, 4) for kind in kinds],
        [verdict(world, kind, 4, 6) for kind in kinds], first_wish(world, ((kinds[0], 0, 9), (kinds[-1], 2, 60))),
        most(world, (kinds[-1], 0, 7)))
