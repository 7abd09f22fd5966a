"""[10] leak_holds, leak and is_shut."""

import copy
import itertools
import random
import unittest

from rightage.bounds import LAST, OLD, READY, ROUND
from rightage.leaks import is_shut, leak, leak_holds
from rightage.tables import both, either, is_table
from tests.byhand import is_leak, leak_forms, shut_by, small_world, with_thing
from tests.samples import (
    HUGE, LARGEST, ODD, ODD_TUPLES, PLAIN, SMALLEST, empty_table, found, fullest_table, paths, random_table,
    replaced, table_of, worlds_of_all_sizes)

# ale comes at 1, 4, 7, .. two old, so of -1, 2, 5, ..
WORLD = (
    3, ("ale", "bun"),
    (("ale", 2, 1, 0, 1), ("ale", 0, 2, 9, 1)),
    (
        ("bun", (("ale", 3, 6),), "oldest", (0, 2), 2),
        ("bun", (("ale", 2, 5), ("bun", 4, 8)), "youngest", (1,), 1),
        ("bun", (("ale", 0, 4), ("ale", 3, 6), ("bun", 1, 20)), "oldest", (0, 1, 2), 6),
        ("bun", (("bun", 0, 20),), "oldest", (), 3),
    ),
)


def with_things(world, *rows):
    table = empty_table(world)
    for kind, origin, age in rows:
        table = with_thing(world, table, kind, origin, age)
    return table


class TestBrought(unittest.TestCase):
    def test_what_a_source_brings_first(self):
        # The first brings ale of -1 at 1, two old; the second ale of 11 at 11, new.
        for rows, wanted in (
                ((), True), ((("ale", -1, 2),), False), ((("ale", -1, 3),), True), ((("ale", -1, 1),), False),
                ((("ale", 2, 2),), True), ((("ale", -4, 2),), False), ((("bun", -1, 2),), True),
                ((("ale", 0, 0), ("ale", 1, 0)), True), ((("ale", 2, 0), ("ale", -1, 2)), False)):
            self.assertIs(leak_holds(WORLD, with_things(WORLD, *rows), ("brought", 0)), wanted, rows)
        for rows, wanted in (
                ((("ale", 11, 0),), False), ((("ale", 14, 0),), True), ((("ale", 11, 1),), True),
                ((("ale", 8, 0),), False), ((("ale", 2, 0),), False), ((("ale", -1, 1),), True)):
            self.assertIs(leak_holds(WORLD, with_things(WORLD, *rows), ("brought", 1)), wanted, rows)

    def test_sources_that_there_are_none_of(self):
        for source in (2, -1, -2, True, False, None, "0", (0,), [0], HUGE, {}):
            self.assertIs(leak_holds(WORLD, empty_table(WORLD), ("brought", source)), False)
        self.assertIs(leak_holds(SMALLEST, empty_table(SMALLEST), ("brought", 0)), False)

    def test_other_forms(self):
        for thing in (("brought",), ("brought", 0, 0), ("brought", 0, ()), ["brought", 0], ("Brought", 0), ("made", 0),
                      ("bring", 0), (0, "brought"), (None, 0), "brought", 0, (), ("brought", 0, 1, (2,))):
            self.assertIs(leak_holds(WORLD, empty_table(WORLD), thing), False)


class TestMade(unittest.TestCase):
    # At 4 (place 1) ale of 1 is three old; at 6 ale of 0 is six old.
    table = with_things(WORLD, ("ale", 0, 3), ("ale", 1, 3), ("bun", 3, 4))

    def test_one_part(self):
        for place, age, wanted in (
                (0, 3, True), (0, 6, True), (0, 5, True), (0, 4, False), (2, 5, True), (2, 4, True), (2, 3, False),
                (2, 6, False)):
            self.assertIs(leak_holds(WORLD, self.table, ("made", 0, place, (age,))), wanted, (place, age))

    def test_what_is_made_is_had(self):
        # Ale of 0, three old at 3, gives bun of 0, five old at 5; ale of 0, six old at 6, the same at eight.
        for rows, five, eight in (
                ((("bun", 0, 5),), False, False), ((("bun", 0, 6),), True, False), ((("bun", 0, 8),), True, False),
                ((("bun", 0, 9),), True, True), ((("bun", 3, 5),), True, True), ((("bun", -3, 5),), False, False),
                ((("ale", 0, 5),), True, True), ((("bun", 1, 5), ("bun", 2, 5)), True, True)):
            table = with_things(WORLD, ("ale", 0, 3), *rows)
            self.assertIs(leak_holds(WORLD, table, ("made", 0, 0, (3,))), five, rows)
            self.assertIs(leak_holds(WORLD, table, ("made", 0, 0, (6,))), eight, rows)

    def test_two_parts(self):
        # At place 1: ale of 2, two old at 4, bun of 0, four old at 4: bun of 2, three old when it is born.
        rows = (("ale", 2, 2), ("bun", 0, 4))
        self.assertIs(leak_holds(WORLD, with_things(WORLD, *rows), ("made", 1, 1, (2, 4))), True)
        self.assertIs(leak_holds(WORLD, with_things(WORLD, rows[0]), ("made", 1, 1, (2, 4))), False)
        self.assertIs(leak_holds(WORLD, with_things(WORLD, rows[1]), ("made", 1, 1, (2, 4))), False)
        for made, wanted in ((("bun", 2, 3), False), (("bun", 2, 4), True), (("bun", 5, 3), True),
                             (("bun", 2, 2), False), (("bun", 0, 3), True), (("ale", 2, 3), True)):
            self.assertIs(leak_holds(WORLD, with_things(WORLD, *rows, made), ("made", 1, 1, (2, 4))), wanted, made)

    def test_the_later_part_tells_the_moment(self):
        # Bun comes from 30 on: at 34 bun of 30 is four old, so bun of 32 is made, none earlier.
        rows = (("ale", 2, 2), ("bun", 30, 4))
        for made, wanted in ((("bun", 32, 3), False), (("bun", 35, 3), True), (("bun", 29, 3), False)):
            self.assertIs(leak_holds(WORLD, with_things(WORLD, *rows, made), ("made", 1, 1, (2, 4))), wanted)

    def test_three_parts(self):
        # At 5: ale of 1 four old, ale of 2 three old, bun of 4 one old; bun of 1 is made, ten old at 11.
        rows = (("ale", 1, 4), ("ale", 2, 3), ("bun", 4, 1))
        whole = ("made", 2, 2, (4, 3, 1))
        self.assertIs(leak_holds(WORLD, with_things(WORLD, *rows), whole), True)
        for k in range(3):
            self.assertIs(leak_holds(WORLD, with_things(WORLD, *rows[:k], *rows[k + 1:]), whole), False)
        for made, wanted in ((("bun", 1, 10), False), (("bun", 1, 11), True), (("bun", -2, 10), False),
                             (("bun", 1, 9), False), (("bun", 2, 10), True)):
            self.assertIs(leak_holds(WORLD, with_things(WORLD, *rows, made), whole), wanted)

    def test_what_keeps_the_origin_of_its_own_kind_never_leaks(self):
        world = replaced(WORLD, (3, 2, 0), "ale")
        rows = (("ale", 1, 4), ("ale", 2, 3), ("bun", 4, 1))
        self.assertIs(leak_holds(world, with_things(world, *rows), ("made", 2, 2, (4, 3, 1))), False)

    def test_moments_that_would_be_below_nought(self):
        # A table may have ale of -20 new, which would be there at -20; the first moment is 0.
        world = (1, ("ale", "bun"), (), (("bun", (("ale", 0, 9),), "oldest", (0,), 1),))
        table = with_things(world, ("ale", -20, 0))
        for age in range(10):
            for made, wanted in (((-age, age + 1), False), ((-age + 1, age + 1), True), ((-20, age + 2), True)):
                other = with_thing(world, table, "bun", made[0], made[1])
                self.assertIs(leak_holds(world, other, ("made", 0, 0, (age,))), wanted, (age, made))

    def test_moments_of_a_place_that_would_be_below_nought(self):
        for span in range(1, ROUND + 1):
            for place in range(span):
                world = (span, ("ale", "bun"), (), (("bun", (("ale", 0, 9),), "oldest", (place,), 1),))
                table = table_of(world, lambda k, spot, age: None if k else -OLD + (spot + OLD) % span)
                for age in range(10):
                    # The first moment of the place is the place itself.
                    just = with_thing(world, table, "bun", place - age, age + 1)
                    late = with_thing(world, table, "bun", place - age + span, age + 1)
                    self.assertIs(leak_holds(world, just, ("made", 0, place, (age,))), False)
                    self.assertIs(leak_holds(world, late, ("made", 0, place, (age,))), True)

    def test_numbers_at_last(self):
        world = (1, ("ale", "bun"), (), (("bun", (("ale", 0, 9),), "oldest", (0,), 1),))
        table = with_things(world, ("ale", LAST, 0))
        self.assertIs(leak_holds(world, table, ("made", 0, 0, (9,))), True)
        self.assertIs(leak_holds(world, with_thing(world, table, "bun", LAST, 1), ("made", 0, 0, (9,))), False)

    def test_each_part_of_a_leak_otherwise(self):
        table = with_things(WORLD, ("ale", 1, 4), ("ale", 2, 3), ("bun", 4, 1))
        leaking = ("made", 2, 2, (4, 3, 1))
        self.assertIs(leak_holds(WORLD, table, leaking), True)
        for path in paths(leaking):
            for new in ODD + ODD_TUPLES + (7, -1, 21, "made ", "brought"):
                self.assertIs(leak_holds(WORLD, table, replaced(leaking, path, new)), False, (path, new))
            if isinstance(found(leaking, path), tuple):
                part = found(leaking, path)
                for wrong in (list(part), part[:-1], part[1:], part + part[-1:], part + (1,), ()):
                    self.assertIs(leak_holds(WORLD, table, replaced(leaking, path, wrong)), False, wrong)

    def test_true_is_no_number(self):
        world = (2, ("a", "b"), (), (("b", (("a", 0, 5),), "oldest", (0, 1), 1),) * 2)
        table = with_things(world, ("a", 0, 0), ("a", 1, 0))
        for way, place, age in itertools.product((0, 1), (0, 1), (0, 1)):
            self.assertIs(leak_holds(world, table, ("made", way, place, (age,))), True)
            self.assertIs(leak_holds(world, table, ("made", bool(way), place, (age,))), False)
            self.assertIs(leak_holds(world, table, ("made", way, bool(place), (age,))), False)
            self.assertIs(leak_holds(world, table, ("made", way, place, (bool(age),))), False)

    def test_ways_that_there_are_none_of(self):
        world = (1, ("a", "b"), (), (("a", (("a", 0, 5),), "oldest", (), 1), ("b", (("a", 0, 5),), "oldest", (0,), 1)))
        table = with_things(world, ("a", 0, 0))
        told = [way for way in range(-5, 6) if leak_holds(world, table, ("made", way, 0, (2,)))]
        self.assertEqual(told, [1])
        self.assertIs(leak_holds(SMALLEST, empty_table(SMALLEST), ("made", 0, 0, (2,))), False)

    def test_places_that_are_no_hours(self):
        table = fullest_table(WORLD)
        table = replaced(table, (1,), empty_table(WORLD)[1])
        told = [place for place in range(-4, 9) if leak_holds(WORLD, table, ("made", 0, place, (4,)))]
        self.assertEqual(told, [0, 2])
        self.assertFalse(any(leak_holds(WORLD, table, ("made", 3, place, (4,))) for place in range(3)))

    def test_ages_beyond_the_window(self):
        table = replaced(fullest_table(WORLD), (1,), empty_table(WORLD)[1])
        told = [age for age in range(-3, 30) if leak_holds(WORLD, table, ("made", 0, 0, (age,)))]
        self.assertEqual(told, [3, 4, 5, 6])


class TestAgainstMoments(unittest.TestCase):
    """Tables with numbers up to about 80, held against each moment up to 200."""

    def worlds(self, seed, many):
        dice = random.Random(seed)
        told = []
        while len(told) < many:
            world = small_world(dice)
            if len(leak_forms(world)) < 500:
                told.append((dice, world))
        return told

    def tables(self, dice, world):
        told = [empty_table(world), fullest_table(world), random_table(dice, world), random_table(dice, world)]
        table = empty_table(world)
        for step in range(dice.randint(1, 12)):
            table = with_thing(world, table, dice.choice(world[1]), dice.randint(-OLD, 60), dice.randint(0, READY))
            told.append(table)
        return told

    def test_leak_holds(self):
        for dice, world in self.worlds(101, 40):
            for table in self.tables(dice, world)[:6]:
                self.assertTrue(is_table(world, table))
                for thing in leak_forms(world):
                    self.assertIs(leak_holds(world, table, thing), is_leak(world, table, thing, 200), thing)

    def test_leak_and_is_shut(self):
        shut = 0
        for dice, world in self.worlds(102, 80):
            for table in self.tables(dice, world):
                told = leak(world, table)
                if told is None:
                    shut += 1
                    self.assertFalse(any(leak_holds(world, table, thing) for thing in leak_forms(world)))
                else:
                    self.assertIn(told, leak_forms(world))
                    self.assertIs(leak_holds(world, table, told), True)
                self.assertIs(is_shut(world, table), told is None)
        self.assertGreater(shut, 40)

    def test_tables_with_one_leak(self):
        # A shut table from which one thing is taken away leaks or is shut, just as all forms tell.
        leaking = 0
        for dice, world in self.worlds(103, 40):
            table = shut_by(world, leak, random_table(dice, world))
            self.assertIs(is_shut(world, table), True)
            for attempt in range(12):
                k, place = dice.randrange(len(world[1])), dice.randrange(world[0])
                age = dice.randint(0, READY)
                row = table[k][place]
                row = tuple(None if at <= age else cell for at, cell in enumerate(row))
                other = replaced(table, (k, place), row)
                wanted = any(leak_holds(world, other, thing) for thing in leak_forms(world))
                self.assertIs(leak(world, other) is not None, wanted)
                leaking += wanted
        self.assertGreater(leaking, 50)

    def test_leaks_closed_in_any_order_lead_to_one_table(self):
        for dice, world in self.worlds(104, 30):
            def last_leak(world, table):
                told = [thing for thing in leak_forms(world) if leak_holds(world, table, thing)]
                return told[-1] if told else None
            self.assertEqual(shut_by(world, leak), shut_by(world, last_leak))

    def test_both_of_two_shut_ones_is_shut(self):
        for dice, world in self.worlds(105, 40):
            one = shut_by(world, leak, random_table(dice, world))
            other = shut_by(world, leak, random_table(dice, world))
            self.assertIs(is_shut(world, both(world, one, other)), True)
            self.assertTrue(is_table(world, either(world, one, other)))


class TestIsShut(unittest.TestCase):
    def test_the_fullest_table_is(self):
        for world in worlds_of_all_sizes():
            self.assertIs(is_shut(world, fullest_table(world)), True)
            self.assertIsNone(leak(world, fullest_table(world)))

    def test_the_empty_table_is_just_where_nothing_is_brought(self):
        for world in worlds_of_all_sizes():
            self.assertIs(is_shut(world, empty_table(world)), not world[2])
            self.assertEqual(leak(world, empty_table(world)), ("brought", 0) if world[2] else None)

    def test_rounds_from_one_to_the_greatest(self):
        dice = random.Random(106)
        for span in range(1, ROUND + 1):
            for attempt in range(10):
                world = small_world(dice)
                while world[0] != span:
                    world = small_world(dice)
                table = shut_by(world, leak)
                self.assertIs(is_shut(world, table), True)
                if world[2]:
                    self.assertIs(is_shut(world, empty_table(world)), False)

    def test_things_that_are_no_tables(self):
        for world in (SMALLEST, PLAIN, LARGEST, WORLD):
            whole = fullest_table(world)
            for thing in ODD + ODD_TUPLES + (list(whole), whole[:-1], whole + whole[:1], (whole,), {"table": whole}, 5):
                self.assertIs(is_shut(world, thing), False)
        whole = fullest_table(PLAIN)
        for path in paths(whole):
            if len(path) < 3:
                self.assertIs(is_shut(PLAIN, replaced(whole, path, list(found(whole, path)))), False)
            elif path[2] > 0:
                self.assertIs(is_shut(PLAIN, replaced(whole, path, None)), False)

    def test_greatest_worlds(self):
        way = ("a", (("b", 0, OLD), ("b", 0, OLD), ("zzzzzzzz", 0, OLD)), "oldest", (0, 1, 2, 3, 4, 5), 6)
        world = replaced(LARGEST, (3,), (way, replaced(way, (2,), "youngest")) * 4)
        self.assertIs(is_shut(world, fullest_table(world)), True)
        table = replaced(fullest_table(world), (0,), tuple(
            tuple(None if age < 26 else cell for age, cell in enumerate(row)) for row in fullest_table(world)[0]))
        self.assertIs(leak_holds(world, table, leak(world, table)), True)


class TestAsked(unittest.TestCase):
    def test_nothing_is_changed_and_the_same_is_told(self):
        table = TestMade.table
        for thing in (("made", 0, 0, (3,)), ["made", 0, 0, [3]], ("made", 0, 0, [3]), {"a": [1]}):
            ahead = copy.deepcopy((WORLD, table, thing))
            self.assertEqual(leak_holds(WORLD, table, thing), leak_holds(WORLD, table, thing))
            self.assertEqual(leak(WORLD, table), leak(WORLD, table))
            self.assertEqual(is_shut(WORLD, thing), is_shut(WORLD, thing))
            self.assertEqual((WORLD, table, thing), ahead)

    def test_a_leak_told_is_of_tuples(self):
        table = fullest_table(WORLD)
        table = replaced(table, (1,), empty_table(WORLD)[1])
        told = leak(WORLD, table)
        self.assertEqual(told[0], "made")
        self.assertIsInstance(told, tuple)
        self.assertIsInstance(told[3], tuple)

    def test_odd_things(self):
        for world in (SMALLEST, PLAIN, LARGEST, WORLD):
            for thing in ODD + ODD_TUPLES + (world, ("made",), ("made", 0), ("made", 0, 0), 4):
                self.assertIs(leak_holds(world, empty_table(world), thing), False)
                self.assertIs(leak_holds(world, fullest_table(world), thing), False)

    def test_defined_here(self):
        for one in (leak, leak_holds, is_shut):
            self.assertEqual(one.__module__, "rightage.leaks")


if __name__ == "__main__":
    unittest.main()
