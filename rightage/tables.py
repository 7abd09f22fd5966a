"""Tables: what they have, and how two of them stand to each other."""

from rightage.bounds import LAST, OLD, READY
from rightage.values import is_number_from, is_row
from rightage.worlds import place_of


def is_table(world, thing):
    """Whether it is a table of that world."""
    span, kinds, sources, ways = world
    if not is_row(thing, len(kinds), len(kinds)):
        return False
    if not all([is_row(rows, span, span) for rows in thing]):
        return False
    return all([is_age_row(world, place, row) for rows in thing for place, row in enumerate(rows)])


def is_age_row(world, place, row):
    """Whether it can stand for a place: for each age a cell, never rising."""
    if not is_row(row, READY + 1, READY + 1):
        return False
    if not all([is_cell(world, place, cell) for cell in row]):
        return False
    return not any([is_above(behind, ahead) for ahead, behind in zip(row, row[1:])])


def is_cell(world, place, cell):
    """Whether it is None, or a number of that place within the bounds."""
    return cell is None or (is_number_from(cell, -OLD, LAST) and place_of(world, cell) == place)


def is_above(one, other):
    """Whether the one cell is above the other; None is above all numbers."""
    if one is None or other is None:
        return one is None and other is not None
    return one > other


def has(world, table, kind, origin, age):
    """Whether the table has a thing of that kind and origin by that age."""
    # No age is below 0, and Python would count such an index from behind.
    if age < 0:
        return False
    cell = table[world[1].index(kind)][place_of(world, origin)][min(age, READY)]
    return cell is not None and cell <= origin


def first_there(world, table, kind, place, age):
    """The first moment of that place at which by the table such a thing of that age is there, or None."""
    cell = table[world[1].index(kind)][place_of(world, place - age)][min(age, READY)]
    # No moment is below 0, and the first one of a place is its own number.
    return None if cell is None else max(cell + age, place)


def both(world, one, other):
    """The table that has just what both have."""
    return cell_by_cell(higher_cell, one, other)


def either(world, one, other):
    """The table that has just what the one or the other has."""
    return cell_by_cell(lower_cell, one, other)


def within(one, other):
    """Whether the other has all that the one has."""
    # It does just where what both have is no less than what the one has.
    return cell_by_cell(higher_cell, one, other) == one


def higher_cell(one, other):
    """The cell that isn't below the other one."""
    return one if is_above(one, other) else other


def lower_cell(one, other):
    """The cell that isn't above the other one."""
    return other if is_above(one, other) else one


def cell_by_cell(choose, one, other):
    """The table with what choose tells of both tables' cells."""
    return tuple([
        tuple([rows_by_cell(choose, row, beside) for row, beside in zip(rows, besides)])
        for rows, besides in zip(one, other)
    ])


def rows_by_cell(choose, row, beside):
    """The row with what choose tells of both rows' cells."""
    return tuple([choose(cell, counter) for cell, counter in zip(row, beside)])
