"""Worlds held against each other: what just one of them can have, and ways that needn't be."""

from rightage.beside import without
from rightage.errors import Unlike
from rightage.least import table as least_table
from rightage.values import common_multiple


def parted(one, other):
    """The first (kind, origin, age) that just one of both worlds can have, or None."""
    if one[1] != other[1]:
        raise Unlike("the kinds are unlike")
    shared = common_multiple(one[0], other[0])
    unlike = []
    for kind, rows, besides in zip(one[1], least_table(one), least_table(other)):
        for place in range(shared):
            unlike += unlike_firsts(kind, rows[place % one[0]], besides[place % other[0]], place, shared)
    if not unlike:
        return None
    moment, kind, origin, age = min(unlike)
    return (kind, origin, age)


def unlike_firsts(kind, row, beside, place, span):
    """(moment, kind, origin, age), for each age, of the first origin of that place in rounds of that span
    that just one of both rows has.
    """
    told = []
    for age, (here, there) in enumerate(zip(row, beside)):
        firsts = [first_origin(cell, place, span) for cell in (here, there) if cell is not None]
        if len(firsts) == 1 or (firsts and firsts[0] != firsts[1]):
            told.append((min(firsts) + age, kind, min(firsts), age))
    return told


def first_origin(cell, place, span):
    """The first number from the cell's on that has that place in rounds of that span."""
    return cell + (place - cell) % span


def needless(world):
    """Rising, the numbers of the ways each of which, alone, can be left out and the table is the same."""
    least = least_table(world)
    return tuple([way for way in range(len(world[3])) if least_table(without(world, "way", way)) == least])


def lacks(one, other):
    """(kind, place, age, here, there), rising: what stands in both least tables where it is unlike."""
    if one[:2] != other[:2]:
        raise Unlike("the rounds or the kinds are unlike")
    told = []
    for kind, rows, besides in zip(one[1], least_table(one), least_table(other)):
        for place, (row, beside) in enumerate(zip(rows, besides)):
            told += [
                (kind, place, age, here, there)
                for age, (here, there) in enumerate(zip(row, beside)) if here != there
            ]
    return tuple(told)
