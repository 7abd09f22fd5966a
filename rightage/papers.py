"""Papers: rows of makings, their first fault, and what they lead to."""

from rightage.bounds import LAST
from rightage.errors import BadPaper
from rightage.values import is_number_from, is_row
from rightage.worlds import bears, brings, opens


def paperfault(world, thing):
    """None of a paper without fault, else the first fault as (number, word)."""
    fault, told = followed(world, thing)
    return fault


def things(world, paper):
    """For each row (kind, origin, born) of its thing."""
    fault, told = followed(world, paper)
    if fault is not None:
        number, word = fault
        raise BadPaper(number, word)
    return tuple(told)


def shows(world, kind, origin, age, thing):
    """Whether it is a paper without fault that leads to such a thing by that age."""
    fault, told = followed(world, thing)
    if fault is not None:
        return False
    last_kind, last_origin, born = told[-1]
    return last_kind == kind and last_origin == origin and born <= origin + age


def followed(world, thing):
    """(fault, told): the first fault or None, and the things of the rows ahead of it."""
    told = []
    if not isinstance(thing, tuple) or not thing:
        return ((-1, "paper"), told)
    for k, row in enumerate(thing):
        word = row_word(world, told, row)
        if word is not None:
            return ((k, word), told)
        told.append(thing_of(world, told, row))
    return (None, told)


def row_word(world, told, row):
    """What is wrong with a row behind rows with these things, or None."""
    if is_brought_row(world, row):
        return None if brings(world, row[1], row[2]) else "moment"
    if not is_made_row(world, len(told), row):
        return "row"
    word, way, moment, parts = row
    if not opens(world, way, moment):
        return "moment"
    windows = world[3][way][1]
    if all([fits(window, told[part], moment) for window, part in zip(windows, parts)]):
        return None
    return "part"


def is_brought_row(world, row):
    """Whether it has the form of what a source of the world brings."""
    if not is_row(row, 3, 3) or row[0] != "brought":
        return False
    return is_number_from(row[1], 0, len(world[2]) - 1) and is_number_from(row[2], 0, LAST)


def is_made_row(world, ahead, row):
    """Whether it has the form of a making by a way of the world, so many rows being ahead."""
    if not is_row(row, 4, 4) or row[0] != "made":
        return False
    word, way, moment, parts = row
    if not is_number_from(way, 0, len(world[3]) - 1) or not is_number_from(moment, 0, LAST):
        return False
    many = len(world[3][way][1])
    return is_row(parts, many, many) and all([is_number_from(part, 0, ahead - 1) for part in parts])


def fits(window, thing, moment):
    """Whether a thing can be the part with that window at that moment."""
    kind, least, greatest = window
    own_kind, origin, born = thing
    return own_kind == kind and born <= moment and least <= moment - origin <= greatest


def thing_of(world, told, row):
    """(kind, origin, born) of a row without fault behind rows with these things."""
    if row[0] == "brought":
        kind, age, place, since, many = world[2][row[1]]
        return (kind, row[2] - age, row[2])
    word, way, moment, parts = row
    origin, born = bears(world, way, moment, [told[part][1] for part in parts])
    return (world[3][way][0], origin, born)


def moved(paper, moments):
    """The paper with all moments so many later."""
    return tuple([row[:2] + (row[2] + moments,) + row[3:] for row in paper])


def trimmed(paper):
    """The rows that the last one goes back to, with parts led along."""
    needed = rows_gone_back_to(paper)
    numbers = {old: new for new, old in enumerate(needed)}
    return tuple([led_along(paper[old], numbers) for old in needed])


def rows_gone_back_to(paper):
    """Rising, the numbers of the rows that the last one goes back to, its own too."""
    needed = [False for row in paper]
    needed[-1] = True
    # Parts stand ahead of what is made of them, so one way back finds them all.
    for k in range(len(paper) - 1, -1, -1):
        if needed[k]:
            for part in parts_of(paper[k]):
                needed[part] = True
    return [k for k, wanted in enumerate(needed) if wanted]


def parts_of(row):
    """The numbers of the rows that a row is made of."""
    return row[3] if row[0] == "made" else ()


def led_along(row, numbers):
    """The row with its parts under their new numbers."""
    if row[0] == "brought":
        return row
    return row[:3] + (tuple([numbers[part] for part in row[3]]),)
