"""[9] is_table and has."""

import copy
import random
import unittest

from rightage.bounds import FAR, LAST, OLD, READY, ROUND
from rightage.tables import both, either, has, is_table, within
from tests.samples import (
    HUGE, LARGEST, ODD, ODD_TUPLES, PLAIN, SMALLEST, empty_table, found, fullest_table, highest_of, lowest_of,
    paths, random_table, replaced, table_of, worlds_of_all_sizes)

AGES = READY + 1


def world_of(span, kinds=("a",)):
    return (span, kinds, (), ())


def one_row(world, place, row, k=0):
    """A table with nothing but this row."""
    return replaced(empty_table(world), (k, place), tuple(row))


class TestIsTable(unittest.TestCase):
    def test_with_nothing_and_with_all(self):
        for world in worlds_of_all_sizes():
            self.assertIs(is_table(world, empty_table(world)), True)
            self.assertIs(is_table(world, fullest_table(world)), True)
            self.assertIs(is_table(world, table_of(world, lambda k, place, age: highest_of(world, place))), True)

    def test_some_tables(self):
        dice = random.Random(9)
        for world in worlds_of_all_sizes():
            self.assertIs(is_table(world, random_table(dice, world)), True)

    def test_sizes(self):
        self.assertEqual(AGES, 27)
        self.assertTrue(is_table(SMALLEST, (((None,) * 27,),)))
        self.assertTrue(is_table(world_of(2, ("a", "b")), (((None,) * 27,) * 2,) * 2))

    def test_numbers_at_the_bounds(self):
        for span in range(1, ROUND + 1):
            world = world_of(span)
            for place in range(span):
                for number in (lowest_of(world, place), highest_of(world, place)):
                    self.assertTrue(is_table(world, one_row(world, place, [number] * AGES)))
                for number in (lowest_of(world, place) - span, highest_of(world, place) + span, HUGE * span + place):
                    self.assertFalse(is_table(world, one_row(world, place, [number] * AGES)))
            for number in (-OLD, LAST):
                self.assertTrue(is_table(world, one_row(world, number % span, [number] * AGES)))
            for number in (-OLD - 1, LAST + 1):
                self.assertFalse(is_table(world, one_row(world, number % span, [number] * AGES)))

    def test_beyond_the_bounds_at_one_age_only(self):
        self.assertFalse(is_table(SMALLEST, one_row(SMALLEST, 0, [LAST + 1] + [LAST] * READY)))
        self.assertFalse(is_table(SMALLEST, one_row(SMALLEST, 0, [-OLD] * READY + [-OLD - 1])))
        self.assertTrue(is_table(SMALLEST, one_row(SMALLEST, 0, [None, LAST] + [-OLD] * (READY - 1))))

    def test_a_number_of_another_place(self):
        for span in range(2, ROUND + 1):
            world = world_of(span)
            for place in range(span):
                for number in range(-OLD, 20):
                    told = is_table(world, one_row(world, place, [number] * AGES))
                    self.assertIs(told, (number - place) % span == 0, (span, place, number))

    def test_a_number_of_another_place_at_each_age(self):
        world = world_of(3)
        for age in range(AGES):
            row = [8] * age + [7] * (AGES - age)
            self.assertFalse(is_table(world, one_row(world, 2, row)))
            self.assertTrue(is_table(world, one_row(world, 2, [8] * age + [5] * (AGES - age))))

    def test_never_rising_from_an_age_to_the_next(self):
        for age in range(1, AGES):
            ahead, behind = [4] * age, [6] * (AGES - age)
            self.assertFalse(is_table(world_of(2), one_row(world_of(2), 0, ahead + behind)))
            ahead, behind = [6] * age, [4] * (AGES - age)
            self.assertTrue(is_table(world_of(2), one_row(world_of(2), 0, ahead + behind)))

    def test_none_behind_a_number(self):
        for age in range(1, AGES):
            nones, rest = [None] * age, [4] * (AGES - age)
            self.assertFalse(is_table(SMALLEST, one_row(SMALLEST, 0, [4] * age + [None] * (AGES - age))))
            self.assertTrue(is_table(SMALLEST, one_row(SMALLEST, 0, nones + rest)))

    def test_none_between_numbers(self):
        for age in range(1, READY):
            row = [4] * AGES
            row[age] = None
            self.assertFalse(is_table(SMALLEST, one_row(SMALLEST, 0, row)))

    def test_truths(self):
        for truth in (True, False):
            self.assertFalse(is_table(SMALLEST, one_row(SMALLEST, 0, [truth] * AGES)))
            for age in range(AGES):
                row = [int(truth)] * AGES
                row[age] = truth
                self.assertFalse(is_table(SMALLEST, one_row(SMALLEST, 0, row)))

    def test_a_list_in_the_place_of_each_tuple(self):
        for world in (SMALLEST, PLAIN, LARGEST):
            for whole in (empty_table(world), fullest_table(world)):
                for path in paths(whole):
                    if isinstance(found(whole, path), tuple):
                        self.assertFalse(is_table(world, replaced(whole, path, list(found(whole, path)))), path)

    def test_a_part_more_or_fewer(self):
        for world in (SMALLEST, PLAIN, LARGEST):
            for whole in (empty_table(world), fullest_table(world)):
                for path in paths(whole):
                    part = found(whole, path)
                    if isinstance(part, tuple):
                        for wrong in (part[:-1], part[1:], part + part[:1], part + part, part + (None,), ()):
                            self.assertIs(is_table(world, replaced(whole, path, wrong)), False, path)

    def test_odd_things_as_the_whole_and_as_each_part(self):
        for world in (SMALLEST, PLAIN):
            for thing in ODD + ODD_TUPLES + (4, world, (empty_table(world),), {"table": empty_table(world)}):
                self.assertIs(is_table(world, thing), False)
            whole = fullest_table(world)
            for path in paths(whole):
                for thing in ODD + ODD_TUPLES:
                    # None may stand at the first age.
                    if thing is not None or len(path) < 3 or path[2] > 0:
                        self.assertIs(is_table(world, replaced(whole, path, thing)), False, (path, thing))

    def test_tables_of_other_worlds(self):
        self.assertFalse(is_table(world_of(2), empty_table(world_of(3))))
        self.assertFalse(is_table(world_of(2), empty_table(world_of(2, ("a", "b")))))
        self.assertFalse(is_table(world_of(2, ("a", "b")), empty_table(world_of(2))))

    def test_nothing_is_changed(self):
        for thing in (fullest_table(PLAIN), list(fullest_table(PLAIN)), [[[1]]], {"a": [1]}):
            ahead = copy.deepcopy(thing)
            self.assertEqual(is_table(PLAIN, thing), is_table(PLAIN, thing))
            self.assertEqual(thing, ahead)


class TestHas(unittest.TestCase):
    def setUp(self):
        self.world = world_of(3, ("ale", "bun"))
        row = [None] * 5 + [8] * 4 + [2] * (AGES - 9)
        self.table = one_row(self.world, 2, row, k=1)

    def had(self, kind, origin, age):
        return has(self.world, self.table, kind, origin, age)

    def test_just_at_below_and_above_the_number(self):
        self.assertIs(self.had("bun", 8, 5), True)
        self.assertIs(self.had("bun", 5, 5), False)
        self.assertIs(self.had("bun", 11, 5), True)
        self.assertIs(self.had("bun", 2, 9), True)
        self.assertIs(self.had("bun", -1, 9), False)
        self.assertIs(self.had("bun", 5, 9), True)

    def test_none_has_nothing(self):
        for origin in (-1, 2, 8, 11, FAR + 1):
            self.assertIs(self.had("bun", origin, 4), False)
            self.assertIs(self.had("bun", origin, 0), False)

    def test_other_places_and_other_kinds(self):
        for age in (5, 9, READY, FAR):
            for origin in (0, 1, 3, 4, 9, 10, FAR, -3, -2):
                self.assertIs(self.had("bun", origin, age), False)
            for origin in range(20):
                self.assertIs(self.had("ale", origin, age), False)

    def test_ages_up_to_ready_and_beyond(self):
        for age in (READY - 1, READY, READY + 1, READY + 2, 2 * READY, FAR):
            self.assertIs(self.had("bun", 2, age), True)
            self.assertIs(self.had("bun", -1, age), False)
        late = one_row(self.world, 0, [None] * READY + [3], k=0)
        told = [has(self.world, late, "ale", 3, age) for age in (0, READY - 1, READY, READY + 1, FAR)]
        self.assertEqual(told, [False, False, True, True, True])

    def test_age_nought(self):
        table = one_row(self.world, 1, [4] + [1] * READY, k=0)
        told = [has(self.world, table, "ale", origin, 0) for origin in (1, 4, 7)]
        self.assertEqual(told, [False, True, True])
        told = [has(self.world, table, "ale", origin, 1) for origin in (-2, 1, 4)]
        self.assertEqual(told, [False, True, True])

    def test_no_age_is_below_nought(self):
        self.assertIs(has(self.world, fullest_table(self.world), "ale", 0, -1), False)

    def test_origins_below_nought(self):
        for span in range(1, ROUND + 1):
            world = world_of(span)
            whole = fullest_table(world)
            for origin in range(-OLD - 7, 8):
                self.assertIs(has(world, whole, "a", origin, 0), origin >= -OLD, (span, origin))
            self.assertIs(has(world, whole, "a", -FAR, FAR), False)

    def test_origins_at_far(self):
        world = world_of(6)
        table = one_row(world, 4, [FAR] * AGES)
        told = [has(world, table, "a", origin, 0) for origin in (FAR - 6, FAR - 1, FAR, FAR + 1, FAR + 6)]
        self.assertEqual(told, [False, False, True, False, True])
        beyond = one_row(world, 0, [LAST] * AGES)
        self.assertIs(has(world, beyond, "a", FAR - 4, FAR), False)

    def test_against_the_numbers(self):
        dice = random.Random(99)
        for world in worlds_of_all_sizes()[:40]:
            table = random_table(dice, world)
            for k, kind in enumerate(world[1]):
                for origin in range(-OLD - 2, 40):
                    for age in (0, 1, 7, 20, READY - 1, READY, READY + 1, FAR):
                        number = table[k][origin % world[0]][age if age < READY else READY]
                        wanted = number is not None and origin >= number
                        self.assertIs(has(world, table, kind, origin, age), wanted)

    def test_what_is_had_by_an_age_is_had_by_each_greater_one(self):
        dice = random.Random(3)
        for world in worlds_of_all_sizes()[:40]:
            table = random_table(dice, world)
            for origin in range(-OLD, 30):
                told = [has(world, table, world[1][0], origin, age) for age in range(READY + 3)]
                self.assertEqual(told, sorted(told))

    def test_nothing_is_changed(self):
        ahead = copy.deepcopy((self.world, self.table))
        self.assertEqual(self.had("bun", 8, 5), self.had("bun", 8, 5))
        self.assertEqual((self.world, self.table), ahead)


class TestDefined(unittest.TestCase):
    def test_defined_here(self):
        for one in (is_table, has, both, either, within):
            self.assertEqual(one.__module__, "rightage.tables")


if __name__ == "__main__":
    unittest.main()
