"""Wishes: things that are to be there at one moment, each of some age."""

from rightage.bounds import ITEMS, LATE
from rightage.errors import BadWish
from rightage.leaks import is_shut
from rightage.least import table as least_table
from rightage.papers import fits, followed
from rightage.tables import first_there, has
from rightage.values import is_number_from, is_row
from rightage.verdicts import paper_for


def wishfault(world, thing):
    """None of a wish, else the first fault as (item, word)."""
    if not is_row(thing, 1, ITEMS):
        return (-1, "wish")
    for k, item in enumerate(thing):
        word = item_word(world, item, LATE)
        if word is not None:
            return (k, word)
    return None


def item_word(world, item, latest):
    """What is wrong with an item whose ages may be from 0 to the latest, or None."""
    if not is_row(item, 3, 3):
        return "item"
    kind, least, greatest = item
    if kind not in world[1]:
        return "kind"
    if not is_number_from(least, 0, latest):
        return "least"
    if not is_number_from(greatest, least, latest):
        return "greatest"
    return None


def refuse_no_wish(world, thing):
    """BadWish of what is no wish."""
    fault = wishfault(world, thing)
    if fault is not None:
        item, word = fault
        raise BadWish(item, word)


def comes(world, wish, moment):
    """Whether the wish comes at that moment."""
    refuse_no_wish(world, wish)
    least = least_table(world)
    return all([age_there(world, least, item, moment) is not None for item in wish])


def age_there(world, table, item, moment):
    """The least age that the item lets and that by the table a thing of its kind has at the moment, or None."""
    kind, least, greatest = item
    ages = [age for age in range(least, greatest + 1) if has(world, table, kind, moment - age, age)]
    return ages[0] if ages else None


def first_wish(world, wish):
    """The first moment at which the wish comes, or None."""
    refuse_no_wish(world, wish)
    firsts = wish_firsts(world, wish)
    return min([first for first in firsts if first is not None], default=None)


def wish_places(world, wish):
    """Rising, the places of all moments at which the wish comes."""
    refuse_no_wish(world, wish)
    return tuple([place for place, first in enumerate(wish_firsts(world, wish)) if first is not None])


def wish_firsts(world, wish):
    """For each place the first moment of it at which the wish comes, or None."""
    least = least_table(world)
    told = []
    for place in range(world[0]):
        firsts = [item_first(world, least, item, place) for item in wish]
        # What is there is so a round later, too, so the item that comes last tells the moment.
        told.append(None if None in firsts else max(firsts))
    return told


def item_first(world, table, item, place):
    """The first moment of that place at which by the table the item's thing is there, or None."""
    kind, least, greatest = item
    firsts = [first_there(world, table, kind, place, age) for age in range(least, greatest + 1)]
    return min([first for first in firsts if first is not None], default=None)


def ages_there(world, kind, place):
    """Rising, the ages from 0 to LATE that a thing of that kind has at some moment of that place."""
    least = least_table(world)
    return tuple([age for age in range(LATE + 1) if first_there(world, least, kind, place, age) is not None])


def wish_verdict(world, wish, moment):
    """("there", a paper, a row's number for each item) or ("never", a shut table by which some item lacks)."""
    refuse_no_wish(world, wish)
    least = least_table(world)
    ages = [age_there(world, least, item, moment) for item in wish]
    if None in ages:
        return ("never", least)
    paper, numbers = paper_for(world, least, [(item[0], moment - age, age) for item, age in zip(wish, ages)])
    return ("there", paper, numbers)


def wish_holds(world, wish, moment, thing):
    """Whether it is what wish_verdict may tell."""
    refuse_no_wish(world, wish)
    if is_row(thing, 3, 3) and thing[0] == "there":
        return is_fulfilled(world, wish, moment, thing[1], thing[2])
    if is_row(thing, 2, 2) and thing[0] == "never":
        return is_barred(world, wish, moment, thing[1])
    return False


def is_fulfilled(world, wish, moment, paper, numbers):
    """Whether the paper is without fault and has for each item, under its number, a thing that does for it then."""
    fault, told = followed(world, paper)
    if fault is not None or not is_row(numbers, len(wish), len(wish)):
        return False
    if not all([is_number_from(number, 0, len(told) - 1) for number in numbers]):
        return False
    return all([fits(item, told[number], moment) for item, number in zip(wish, numbers)])


def is_barred(world, wish, moment, table):
    """Whether it is a shut table by which for some item no thing that does for it is there then."""
    return is_shut(world, table) and any([age_there(world, table, item, moment) is None for item in wish])
