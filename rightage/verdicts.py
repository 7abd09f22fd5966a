"""Verdicts: a paper for what can be had, a table for what can't."""

from rightage.bounds import READY
from rightage.leaks import is_shut
from rightage.least import table as least_table
from rightage.papers import shows
from rightage.tables import has
from rightage.values import is_row
from rightage.worlds import brings, opens, place_of


def verdict(world, kind, origin, age):
    """("rows", a paper that shows it) or ("never", a shut table that hasn't it)."""
    least = least_table(world)
    if not has(world, least, kind, origin, age):
        return ("never", least)
    paper, numbers = paper_for(world, least, [(kind, origin, age)])
    return ("rows", paper)


def verdict_holds(world, kind, origin, age, thing):
    """Whether it is such a paper or such a table, with its word."""
    if not is_row(thing, 2, 2):
        return False
    word, proof = thing
    if word == "rows":
        return shows(world, kind, origin, age, proof)
    return word == "never" and is_shut(world, proof) and not has(world, proof, kind, origin, age)


def paper_for(world, least, wanted):
    """(paper, numbers): one paper for all (kind, origin, age) wanted, which the least table has, and their rows.

    Within it a thing is (born, kind, origin).
    """
    targets = [earliest(world, least, kind, origin, age) for kind, origin, age in wanted]
    makings = makings_behind(world, least, targets)
    # Parts are born ahead of what is made of them.
    order = sorted(list(makings))
    numbers = {thing: k for k, thing in enumerate(order)}
    paper = tuple([row_with(makings[thing], numbers) for thing in order])
    return (paper, tuple([numbers[target] for target in targets]))


def earliest(world, least, kind, origin, age):
    """The thing of that kind and origin, there by that age, that is led along from the first of its place."""
    row = least[world[1].index(kind)][place_of(world, origin)]
    born_at = min(age, READY)
    while born_at > 0 and row[born_at - 1] == row[born_at]:
        born_at -= 1
    return (origin + born_at, kind, origin)


def makings_behind(world, least, targets):
    """For each thing needed its row's beginning and the things that it is made of."""
    told = {}
    left = list(targets)
    while left:
        thing = left.pop()
        if thing not in told:
            told[thing] = making_of(world, least, thing)
            left.extend(told[thing][1])
    return told


def making_of(world, least, thing):
    """(row, parts): how it comes, as the first one of its place came, so many rounds later."""
    born, kind, origin = thing
    first = least[world[1].index(kind)][place_of(world, origin)][born - origin]
    # Gone back from where it stands, not from the first, the parts could lead back round by round without end.
    row, parts = first_making(world, least, kind, first, born - origin)
    later = origin - first
    led = [(when + later, part, start + later) for when, part, start in parts]
    return (row[:2] + (row[2] + later,), led)


def first_making(world, least, kind, origin, age):
    """(row, parts) of a thing that the least table has from this origin and this age on."""
    for k, source in enumerate(world[2]):
        if source[:2] == (kind, age) and brings(world, k, origin + age):
            return (("brought", k, origin + age), [])
    # The least table has only what is brought or made, so there is such a way.
    fitting = [way for way in range(len(world[3])) if makes(world, least, way, kind, origin, age)]
    return made_from(world, least, fitting[0], origin, age)


def makes(world, least, way, kind, origin, age):
    """Whether by that way a thing of that kind and origin can be made so as to be born at that age."""
    moment = origin + age - world[3][way][4]
    if world[3][way][0] != kind or not opens(world, way, moment):
        return False
    return handing_ages(world, least, way, moment, moment - origin) is not None


def made_from(world, least, way, origin, age):
    """(row, parts) of a thing of that origin that is made by that way so as to be born at that age."""
    moment = origin + age - world[3][way][4]
    ages = handing_ages(world, least, way, moment, moment - origin)
    parts = [earliest(world, least, part[0], moment - old, old) for part, old in zip(world[3][way][1], ages)]
    return (("made", way, moment), parts)


def handing_ages(world, least, way, moment, age):
    """Ages of the way's parts, there at the moment, of which something of this age can be made; or None."""
    kind, parts, keeps, hours, wait = world[3][way]
    told = []
    for part in parts:
        there = ages_of_part(world, least, part, moment)
        beside = [old for old in there if (old <= age if keeps == "oldest" else old >= age)]
        if not beside:
            return None
        told.append(age if age in there else beside[0])
    return told if age in told else None


def ages_of_part(world, least, part, moment):
    """The ages from the part's least to its greatest that things have at the moment."""
    kind, youngest, oldest = part
    return [age for age in range(youngest, oldest + 1) if has(world, least, kind, moment - age, age)]


def row_with(making, numbers):
    """The row, with the numbers of its parts if it is made."""
    row, parts = making
    if row[0] == "brought":
        return row
    return row + (tuple([numbers[part] for part in parts]),)
