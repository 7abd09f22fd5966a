"""[11] both, either and within."""

import copy
import random
import unittest

from rightage.bounds import LAST, OLD, READY
from rightage.tables import both, either, has, is_table, within
from tests.samples import (
    LARGEST, PLAIN, SMALLEST, empty_table, found, fullest_table, paths, random_table, table_of,
    worlds_of_all_sizes)

ENDLESS = 10 ** 30


def as_number(cell):
    """None as a number above all that may stand in a table."""
    return ENDLESS if cell is None else cell


def cells(table):
    return [cell for rows in table for row in rows for cell in row]


def pairs():
    """Worlds with two tables each: unlike ones, and one within the other."""
    dice = random.Random(11)
    told = []
    for world in worlds_of_all_sizes():
        one, other = random_table(dice, world), random_table(dice, world)
        told += [(world, one, other), (world, one, both(world, one, other)), (world, one, one)]
        told += [(world, one, empty_table(world)), (world, fullest_table(world), one)]
    return told


def row_table(*numbers):
    """A table of the smallest world: these numbers, the last one to the end."""
    return ((numbers + (numbers[-1],) * (READY + 1 - len(numbers)),),)


class TestByHand(unittest.TestCase):
    one = row_table(None, 9, 9, 4, 1)
    other = row_table(None, None, 7, 5, 1)

    def test_both(self):
        self.assertEqual(both(SMALLEST, self.one, self.other), row_table(None, None, 9, 5, 1))

    def test_either(self):
        self.assertEqual(either(SMALLEST, self.one, self.other), row_table(None, 9, 7, 4, 1))

    def test_within(self):
        self.assertIs(within(self.one, self.other), False)
        self.assertIs(within(self.other, self.one), False)
        self.assertIs(within(row_table(None, None, 9, 5, 1), self.one), True)
        self.assertIs(within(self.one, row_table(None, None, 9, 5, 1)), False)
        self.assertIs(within(self.one, row_table(None, 9, 7, 4, 1)), True)

    def test_one_number_makes_the_difference(self):
        low, high, none = row_table(3), row_table(4, 3), row_table(None, 3)
        self.assertEqual([within(low, high), within(high, low)], [False, True])
        self.assertEqual([within(none, high), within(high, none)], [True, False])
        self.assertEqual([within(none, none), within(low, low)], [True, True])

    def test_numbers_at_their_bounds(self):
        last, least, none = row_table(LAST), row_table(-OLD), row_table(None)
        self.assertEqual(both(SMALLEST, last, least), last)
        self.assertEqual(either(SMALLEST, last, least), least)
        self.assertEqual(both(SMALLEST, last, none), none)
        self.assertEqual(either(SMALLEST, none, last), last)
        self.assertEqual([within(none, last), within(last, none), within(last, least)], [True, False, True])

    def test_nought_is_no_none(self):
        nought, none, one = row_table(0), row_table(None), row_table(1)
        self.assertEqual(both(SMALLEST, nought, none), none)
        self.assertEqual(either(SMALLEST, nought, none), nought)
        self.assertEqual(both(SMALLEST, nought, one), one)
        self.assertEqual([within(nought, none), within(none, nought)], [False, True])

    def test_each_place_and_kind_by_itself(self):
        one = table_of(PLAIN, lambda k, place, age: place if k == 0 else None)
        other = table_of(PLAIN, lambda k, place, age: place + 4 if place < 2 else place)
        self.assertEqual(
            both(PLAIN, one, other),
            table_of(PLAIN, lambda k, place, age: None if k > 0 else place + 4 if place < 2 else place))
        self.assertEqual(
            either(PLAIN, one, other),
            table_of(PLAIN, lambda k, place, age: place if k == 0 or place >= 2 else place + 4))


class TestLaws(unittest.TestCase):
    def test_number_by_number(self):
        for world, one, other in pairs():
            rows = list(zip(cells(one), cells(other), cells(both(world, one, other)), cells(either(world, one, other))))
            for here, there, above, below in rows:
                self.assertEqual(as_number(above), max(as_number(here), as_number(there)))
                self.assertEqual(as_number(below), min(as_number(here), as_number(there)))

    def test_they_are_tables(self):
        for world, one, other in pairs():
            self.assertTrue(is_table(world, both(world, one, other)))
            self.assertTrue(is_table(world, either(world, one, other)))

    def test_in_either_order_the_same(self):
        for world, one, other in pairs():
            self.assertEqual(both(world, one, other), both(world, other, one))
            self.assertEqual(either(world, one, other), either(world, other, one))

    def test_a_table_with_itself(self):
        for world, one, other in pairs():
            self.assertEqual(both(world, one, one), one)
            self.assertEqual(either(world, one, one), one)
            self.assertIs(within(one, one), True)

    def test_with_one_that_has_nothing(self):
        for world, one, other in pairs():
            nothing = empty_table(world)
            self.assertEqual(both(world, one, nothing), nothing)
            self.assertEqual(either(world, one, nothing), one)
            self.assertIs(within(nothing, one), True)
            self.assertIs(within(one, nothing), one == nothing)

    def test_what_both_have_is_within_and_what_either_has_around(self):
        for world, one, other in pairs():
            self.assertTrue(within(both(world, one, other), one))
            self.assertTrue(within(both(world, one, other), other))
            self.assertTrue(within(one, either(world, one, other)))
            self.assertTrue(within(other, either(world, one, other)))

    def test_within_number_by_number(self):
        for world, one, other in pairs():
            wanted = all(as_number(there) <= as_number(here) for here, there in zip(cells(one), cells(other)))
            self.assertIs(within(one, other), wanted)

    def test_against_has_thing_by_thing(self):
        for world, one, other in pairs()[:150]:
            shared, joint = both(world, one, other), either(world, one, other)
            all_there = True
            for kind in world[1]:
                for origin in range(-OLD - 1, 120, 1 + len(world[1]) // 3):
                    for age in (0, 1, 5, 13, 20, 25, READY, READY + 1):
                        here = has(world, one, kind, origin, age)
                        there = has(world, other, kind, origin, age)
                        self.assertIs(has(world, shared, kind, origin, age), here and there)
                        self.assertIs(has(world, joint, kind, origin, age), here or there)
                        all_there = all_there and (there or not here)
            if within(one, other):
                self.assertTrue(all_there)

    def test_within_is_just_what_has_tells(self):
        dice = random.Random(12)
        for world in worlds_of_all_sizes()[:25]:
            one, other = random_table(dice, world), random_table(dice, world)
            for small, large in ((one, other), (both(world, one, other), one), (one, either(world, one, other))):
                wanted = all(
                    has(world, large, kind, origin, age) or not has(world, small, kind, origin, age)
                    for kind in world[1] for origin in range(-OLD, 420) for age in range(READY + 1))
                self.assertIs(within(small, large), wanted)


class TestAsked(unittest.TestCase):
    def test_tables_told_are_tuples_all_through(self):
        for world in (SMALLEST, PLAIN, LARGEST):
            for told in (both(world, fullest_table(world), empty_table(world)),
                         either(world, fullest_table(world), empty_table(world))):
                for path in paths(told):
                    wanted = tuple if len(path) < 3 else (int, type(None))
                    self.assertIsInstance(found(told, path), wanted)

    def test_the_tables_handed_in_stay(self):
        for world, one, other in pairs()[:60]:
            ahead = copy.deepcopy((world, one, other))
            first = (both(world, one, other), either(world, one, other), within(one, other))
            self.assertEqual((world, one, other), ahead)
            self.assertEqual((both(world, one, other), either(world, one, other), within(one, other)), first)


if __name__ == "__main__":
    unittest.main()
