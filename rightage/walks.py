"""Worlds gone through moment by moment.

Ages are told as the bits of a number: bit a stands for the age a. A state is (ages, coming): for each kind
the ages that things have at the moment gone through last; and for each of the WAIT moments behind it,
for each kind, the ages at which things made by now are born then.
"""

from rightage.bounds import READY, WAIT
from rightage.worlds import brings, opens


def walked(world, last, *, missed=()):
    """For each kind (origin, age) of what is born by that moment, age the least at which it is there."""
    state = at_the_beginning(world)
    told = [[] for kind in world[1]]
    for moment in range(last + 1):
        state, fresh = stepped(world, moment, state, missed)
        for k, bits in enumerate(fresh):
            told[k] += [(moment - age, age) for age in ages_in(bits)]
    return tuple([tuple(sorted(rows)) for rows in told])


def at_the_beginning(world):
    """The state ahead of all moments."""
    nothing = [0 for kind in world[1]]
    return (nothing, [nothing for wait in range(WAIT)])


def stepped(world, moment, state, missed):
    """(state, fresh): the state behind the moment, and for each kind the ages of what wasn't there ahead of it."""
    ages, coming = state
    # Nothing is born older than READY, and no part is older, so that older things needn't be kept.
    grown = [bits << 1 & bits_from(0, READY) for bits in ages]
    born = [bits | due for bits, due in zip(brought(world, moment, missed), coming[0])]
    there = [old | new for old, new in zip(grown, born)]
    fresh = [new & ~old for old, new in zip(grown, born)]
    return ((there, come_behind(world, moment, there, coming)), fresh)


def brought(world, moment, missed):
    """For each kind the ages at which things are brought then."""
    told = [0 for kind in world[1]]
    for k, (kind, age, place, since, many) in enumerate(world[2]):
        if brings(world, k, moment) and (k, moment) not in missed:
            told[world[1].index(kind)] |= 1 << age
    return told


def come_behind(world, moment, there, coming):
    """What is born at the moments behind, made at this moment of what is there, or made ahead of it."""
    told = [list(row) for row in coming[1:]] + [[0 for kind in world[1]]]
    for k, (kind, parts, keeps, hours, wait) in enumerate(world[3]):
        if opens(world, k, moment):
            told[wait - 1][world[1].index(kind)] |= made_bits(world, parts, keeps, there) << wait
    return told


def made_bits(world, parts, keeps, there):
    """The ages, at the moment of making, of all that can be made of what is there."""
    found = [there[world[1].index(kind)] & bits_from(least, greatest) for kind, least, greatest in parts]
    if 0 in found:
        return 0
    joint = 0
    for bits in found:
        joint |= bits
    # Each part's age can be handed on, unless some other part has only older (or only younger) things.
    if keeps == "oldest":
        return joint & bits_from(max([lowest_in(bits) for bits in found]), READY)
    return joint & bits_from(0, min([highest_in(bits) for bits in found]))


def bits_from(least, greatest):
    """The ages from least to greatest."""
    return (1 << greatest + 1) - (1 << least)


def lowest_in(bits):
    """The least age of some."""
    return (bits & -bits).bit_length() - 1


def highest_in(bits):
    """The greatest age of some."""
    return bits.bit_length() - 1


def ages_in(bits):
    """The ages, rising."""
    return [age for age in range(bits.bit_length()) if bits >> age & 1]
