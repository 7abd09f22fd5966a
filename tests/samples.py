"""Worlds, tables and odd things that several tests share."""

import random

from rightage.bounds import (
    KINDS, LAST, MANY, OLD, PARTS, READY, ROUND, SINCE, SOURCES, WAIT, WAYS)

SMALLEST = (1, ("a",), (), ())

# One of each: few enough to be read, and every field away from its bounds.
PLAIN = (
    4,
    ("bud", "jam", "rye"),
    (("bud", 3, 2, 5, 4), ("rye", 0, 0, 0, 1)),
    (
        ("jam", (("bud", 1, 7), ("rye", 0, 4)), "oldest", (0, 3), 2),
        ("jam", (("jam", 2, 9),), "youngest", (1,), 1),
    ),
)

BOUND_KINDS = ("a", "b", "yyyyyyyy", "zzzzzzzz")
BOUND_SOURCE = ("zzzzzzzz", OLD, ROUND - 1, SINCE, MANY)
BOUND_PART = ("zzzzzzzz", OLD, OLD)
BOUND_WAY = ("zzzzzzzz", (BOUND_PART,) * PARTS, "youngest", tuple(range(ROUND)), WAIT)
LARGEST = (ROUND, BOUND_KINDS, (BOUND_SOURCE,) * SOURCES, (BOUND_WAY,) * WAYS)

HUGE = 10 ** 29 + 7

# Never a world, nor any part of one.
ODD = (
    None, True, False, "", "Bud", "b3", "two words", "x" * 400, "line\nend", HUGE, -HUGE,
    [], [1, 2], [None], {}, {"a": 1}, {"round": [1]},
)
# Never a world, nor a number, a name or a word in one.
ODD_TUPLES = ((), (None,), ((),), ([],), (1,), (1, 2, 3, 4, 5, 6, 7))


def replaced(thing, path, new):
    """The tuple with what stands at the path replaced."""
    if not path:
        return new
    at = path[0]
    return thing[:at] + (replaced(thing[at], path[1:], new),) + thing[at + 1:]


def found(thing, path):
    """What stands at the path."""
    for at in path:
        thing = thing[at]
    return thing


def paths(thing):
    """The paths of a tuple and of all that is in it, at any depth."""
    told = [()]
    if isinstance(thing, tuple):
        for at, part in enumerate(thing):
            told += [(at,) + path for path in paths(part)]
    return told


def random_part(dice, kinds):
    least = dice.randint(0, OLD)
    return (dice.choice(kinds), least, dice.randint(least, OLD))


def random_world(dice):
    """Some world; dice is a random.Random with a set seed."""
    span = dice.randint(1, ROUND)
    names = ["".join(dice.choices("abcxyz", k=dice.randint(1, 8))) for k in range(9)]
    kinds = tuple(sorted(set(names))[:dice.randint(1, KINDS)])
    sources = tuple(
        (dice.choice(kinds), dice.randint(0, OLD), dice.randrange(span),
         dice.choice((0, dice.randint(0, 30), SINCE)), dice.randint(1, MANY))
        for k in range(dice.randint(0, SOURCES)))
    ways = tuple(
        (dice.choice(kinds), tuple(random_part(dice, kinds) for j in range(dice.randint(1, PARTS))),
         dice.choice(("oldest", "youngest")),
         tuple(sorted(dice.sample(range(span), dice.randint(0, span)))), dice.randint(1, WAIT))
        for k in range(dice.randint(0, WAYS)))
    return (span, kinds, sources, ways)


def worlds_of_all_sizes():
    """The smallest, the largest, the plain one, and many between."""
    dice = random.Random(20261118)
    return [SMALLEST, PLAIN, LARGEST] + [random_world(dice) for k in range(200)]


def table_of(world, tell):
    """The tuples of a table; tell(k, place, age) tells each number or None."""
    return tuple(
        tuple(tuple(tell(k, place, age) for age in range(READY + 1)) for place in range(world[0]))
        for k in range(len(world[1])))


def empty_table(world):
    return table_of(world, lambda k, place, age: None)


def lowest_of(world, place):
    """The least number of a place that may stand in a table."""
    return -OLD + (place + OLD) % world[0]


def highest_of(world, place):
    """The greatest number of a place that may stand in a table."""
    return LAST - (LAST - place) % world[0]


def fullest_table(world):
    return table_of(world, lambda k, place, age: lowest_of(world, place))


def random_row(dice, world, place):
    steps = [None] * (READY + 1)
    at = dice.randint(0, READY + 1)
    number = lowest_of(world, place) + world[0] * dice.randint(0, 9)
    for age in range(READY, at - 1, -1):
        steps[age] = number
        number += world[0] * dice.choice((0, 0, 0, 1, 2))
    return tuple(steps)


def random_table(dice, world):
    return tuple(tuple(random_row(dice, world, place) for place in range(world[0])) for kind in world[1])
