"""What the document tells, done the long way: every moment, every thing, every choice of parts."""

import itertools

from rightage.bounds import MANY, OLD, PARTS, READY, ROUND, SINCE, SOURCES, WAIT, WAYS
from tests.samples import BOUND_KINDS, empty_table


def gone_through(world, last, missed=()):
    """(kind, origin) -> the moment at which such a thing is born first, of all born by last."""
    span, kinds, sources, ways = world
    born = {}
    due = {}
    for moment in range(last + 1):
        for k, (kind, age, place, since, many) in enumerate(sources):
            if moment >= since and moment % span == place and (k, moment) not in missed:
                born.setdefault((kind, moment - age), moment)
        for thing in due.pop(moment, ()):
            born.setdefault(thing, moment)
        for kind, parts, keeps, hours, wait in ways:
            if moment % span in hours:
                there = [[origin for (what, origin) in born if what == part and least <= moment - origin <= greatest]
                         for part, least, greatest in parts]
                keep = min if keeps == "oldest" else max
                made = {(kind, keep(origins)) for origins in itertools.product(*there)}
                due.setdefault(moment + wait, set()).update(made)
    return born


def had(born, kind, origin, age):
    """Whether it is had by that age, by what was gone through."""
    return (kind, origin) in born and born[kind, origin] <= origin + age


def there_at(born, kind, least, greatest, moment):
    """Whether a thing of that kind and of such an age is there at the moment."""
    return any(had(born, kind, moment - age, age) for age in range(least, greatest + 1))


def table_has(world, table, kind, origin, age):
    number = table[world[1].index(kind)][origin % world[0]][min(age, READY)]
    return number is not None and number <= origin


def is_leak(world, table, thing, last):
    """Whether it is a leak by some moment up to last; thing has the form of one."""
    span, kinds, sources, ways = world
    if thing[0] == "brought":
        kind, age, place, since, many = sources[thing[1]]
        first = min(moment for moment in range(since, since + span) if moment % span == place)
        return not table_has(world, table, kind, first - age, age)
    kind, parts, keeps, hours, wait = ways[thing[1]]
    handed = max(thing[3]) if keeps == "oldest" else min(thing[3])
    return any(
        all(table_has(world, table, part[0], moment - age, age) for part, age in zip(parts, thing[3]))
        and not table_has(world, table, kind, moment - handed, handed + wait)
        for moment in range(thing[2], last + 1, span))


def leak_forms(world):
    """All that has the form of a leak."""
    told = [("brought", source) for source in range(len(world[2]))]
    for k, (kind, parts, keeps, hours, wait) in enumerate(world[3]):
        windows = [range(least, greatest + 1) for part, least, greatest in parts]
        told += [("made", k, place, ages) for place in hours for ages in itertools.product(*windows)]
    return told


def with_thing(world, table, kind, origin, age):
    """The table that has this, too, and no more than it must for that."""
    rows = [[list(row) for row in rows] for rows in table]
    row = rows[world[1].index(kind)][origin % world[0]]
    for at in range(age, READY + 1):
        row[at] = origin if row[at] is None else min(row[at], origin)
    return tuple(tuple(tuple(row) for row in rows) for rows in rows)


def let_out(world, table, thing):
    """(kind, origin, age) that the leak leads to."""
    span, kinds, sources, ways = world
    if thing[0] == "brought":
        kind, age, place, since, many = sources[thing[1]]
        return (kind, since + (place - since) % span - age, age)
    kind, parts, keeps, hours, wait = ways[thing[1]]
    place, ages = thing[2], thing[3]
    numbers = [table[kinds.index(part[0])][(place - age) % span][age] + age for part, age in zip(parts, ages)]
    moment = max([place] + numbers)
    handed = max(ages) if keeps == "oldest" else min(ages)
    return (kind, moment - handed, handed + wait)


def shut_by(world, find, table=None):
    """The table with all let in that leaks, one leak of find(world, table) after the other."""
    table = empty_table(world) if table is None else table
    while True:
        thing = find(world, table)
        if thing is None:
            return table
        wider = with_thing(world, table, *let_out(world, table, thing))
        assert wider != table, thing
        table = wider


def small_part(dice, kinds):
    least = dice.choice((0, 0, 1, 2, dice.randint(0, OLD)))
    return (dice.choice(kinds), least, min(OLD, least + dice.choice((0, 1, 2, 4, 7))))


def small_world(dice, most_parts=3):
    """Some world that can be gone through by hand: early sources, narrow windows."""
    span = dice.randint(1, 6)
    kinds = ("ale", "bun", "cod", "dip")[:dice.randint(1, 4)]
    sources = tuple(
        (dice.choice(kinds), dice.choice((0, 1, 3, dice.randint(0, OLD))), dice.randrange(span),
         dice.choice((0, 0, dice.randint(0, 15))), dice.randint(1, 9))
        for k in range(dice.choice((0, 1, 1, 2, 2, 3))))
    ways = tuple(
        (dice.choice(kinds), tuple(small_part(dice, kinds) for j in range(dice.randint(1, most_parts))),
         dice.choice(("oldest", "youngest")),
         tuple(sorted(dice.sample(range(span), dice.randint(min(1, span), span)))), dice.randint(1, 6))
        for k in range(dice.choice((0, 1, 2, 3, 4))))
    return (span, kinds, sources, ways)


def greatest_world(dice, since=SINCE):
    """A world at every bound at once: as many kinds, sources, ways and parts as can be, and the widest windows."""
    kinds = BOUND_KINDS
    sources = tuple(
        (dice.choice(kinds), dice.choice((0, 1, OLD)), dice.randrange(ROUND), dice.choice((0, since)), MANY)
        for k in range(SOURCES))
    ways = tuple(
        (dice.choice(kinds),
         tuple((dice.choice(kinds), dice.choice((0, 0, OLD - 1)), OLD) for j in range(PARTS)),
         dice.choice(("oldest", "youngest")), tuple(range(ROUND)), dice.choice((1, WAIT)))
        for k in range(WAYS))
    return (ROUND, kinds, sources, ways)


# Worlds in which new ages still come after more than a hundred moments, and papers are long.
SLOW = (
    (4, ("a", "b", "c", "d"), (("c", 1, 1, 0, 1), ("b", 2, 3, 0, 1), ("b", 1, 0, 0, 1)), (
        ("b", (("a", 2, 3), ("b", 18, 18)), "oldest", (2, 3), 4), ("b", (("b", 6, 11),), "youngest", (1,), 3),
        ("d", (("a", 18, 19), ("c", 1, 1)), "youngest", (1, 2), 6),
        ("a", (("c", 3, 3), ("b", 18, 18)), "youngest", (0, 3), 4),
        ("c", (("d", 10, 11), ("c", 8, 8), ("b", 5, 5)), "youngest", (0,), 2),
        ("d", (("d", 20, 20), ("a", 3, 6)), "youngest", (0, 1, 2, 3), 5),
        ("a", (("c", 0, 12), ("b", 2, 3), ("a", 19, 20)), "youngest", (1, 2, 3), 3),
        ("a", (("a", 14, 15), ("a", 3, 5)), "youngest", (3,), 1))),
    (5, ("a", "b", "c", "d"), (("c", 0, 3, 0, 1), ("c", 0, 2, 0, 1), ("b", 2, 2, 0, 1)), (
        ("c", (("d", 10, 11), ("d", 15, 15)), "youngest", (0, 1, 2), 5),
        ("d", (("d", 19, 19),), "oldest", (0, 1, 2, 3, 4), 6), ("a", (("b", 0, 0),), "youngest", (4,), 5),
        ("a", (("b", 17, 20),), "oldest", (0, 2), 3),
        ("d", (("c", 18, 18), ("c", 0, 0), ("c", 12, 20)), "youngest", (1, 3), 3),
        ("d", (("b", 2, 4), ("a", 17, 19), ("a", 10, 11)), "youngest", (0, 2, 3), 4),
        ("b", (("c", 1, 1), ("a", 19, 20)), "youngest", (1, 2, 3, 4), 4),
        ("a", (("b", 20, 20), ("b", 4, 5), ("b", 20, 20)), "youngest", (0, 1, 2, 4), 2))),
    (3, ("a", "b", "c", "d"), (("b", 2, 2, 0, 1), ("d", 0, 1, 0, 1), ("c", 2, 1, 0, 1)), (
        ("d", (("a", 8, 9),), "youngest", (0, 1), 4),
        ("a", (("b", 13, 13), ("b", 3, 9), ("d", 16, 16)), "youngest", (0, 2), 6),
        ("b", (("d", 6, 8), ("d", 2, 7)), "oldest", (0, 1, 2), 3),
        ("c", (("a", 19, 19), ("b", 2, 2)), "youngest", (1, 2), 2), ("a", (("b", 15, 17),), "oldest", (1,), 5),
        ("b", (("b", 4, 5), ("d", 5, 6)), "oldest", (0, 1, 2), 3),
        ("b", (("d", 19, 19), ("c", 1, 5)), "youngest", (0, 1, 2), 2),
        ("a", (("a", 20, 20), ("c", 1, 15)), "youngest", (1,), 3))),
)
