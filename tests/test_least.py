"""[12] table and ready, [14] last_age, and what [2] says of them."""

import copy
import random
import unittest

from rightage.bounds import FAR, OLD, READY, SINCE
from rightage.leaks import is_shut, leak
from rightage.least import last_age, ready, table
from rightage.tables import both, either, has, is_table, within
from rightage.worlds import worldfault
from tests.byhand import SLOW, gone_through, greatest_world, had, shut_by, small_world
from tests.samples import (
    LARGEST, PLAIN, SMALLEST, empty_table, found, fullest_table, paths, random_table, random_world, replaced, table_of,
    worlds_of_all_sizes)

ENDS = 160


def small_worlds(seed, many):
    dice = random.Random(seed)
    return [small_world(dice) for k in range(many)]


def later_since(world, since):
    """The world with all sources from then on."""
    return replaced(world, (2,), tuple(source[:3] + (since,) + source[4:] for source in world[2]))


class TestByHand(unittest.TestCase):
    def test_no_sources(self):
        self.assertEqual(table(SMALLEST), empty_table(SMALLEST))
        world = replaced(LARGEST, (2,), ())
        self.assertEqual(table(world), empty_table(world))

    def test_no_ways(self):
        world = (3, ("ale", "bun"), (("bun", 4, 1, 7, 1), ("bun", 2, 2, 0, 1)), ())
        # Bun of 3 at 7, four old; bun of 0 at 2, two old, so that the other one is no news.
        self.assertEqual(table(world), table_of(
            world, lambda k, place, age: 0 if k == 1 and place == 0 and age >= 2 else None))

    def test_two_sources_of_one_place(self):
        world = (3, ("ale",), (("ale", 4, 1, 0, 1), ("ale", 1, 1, 20, 1), ("ale", 2, 2, 9, 1)), ())
        # Ale of -3 at 1, four old; ale of 21 at 22, one old; ale of 9 at 11, two old.
        rows = {0: lambda age: None if age < 1 else 21 if age < 2 else 9 if age < 4 else -3}
        self.assertEqual(table(world), table_of(world, lambda k, place, age: rows[place](age) if place in rows else None))

    def test_one_making(self):
        world = (4, ("ale", "bun"), (("ale", 1, 2, 5, 1),), (("bun", (("ale", 4, 6),), "oldest", (0,), 3),))
        # Ale of 5 at 6, one old; at 8 three old, at 12 seven old: never from four to six.
        self.assertEqual(table(world)[1], empty_table(world)[1])
        world = replaced(world, (3, 0, 3), (1,))
        # At 9 four old; bun of 5 at 12, seven old.
        self.assertEqual(table(world), table_of(
            world, lambda k, place, age: 5 if place == 1 and age >= (1, 7)[k] else None))

    def test_oldest_and_youngest(self):
        for keeps, place in (("oldest", 0), ("youngest", 3)):
            world = (6, ("ale", "bun", "cod"), (("ale", 0, 0, 0, 1), ("bun", 0, 3, 0, 1)),
                     (("cod", (("ale", 0, 5), ("bun", 0, 5)), keeps, (4,), 2),))
            # At 4 ale of 0 is four old, bun of 3 one old; cod is born at 6.
            self.assertEqual(table(world)[2], tuple(
                tuple(place if spot == place and age >= 6 - place else None for age in range(READY + 1))
                for spot in range(6)))

    def test_a_way_that_waits_for_a_place(self):
        world = (5, ("ale", "bun"), (("ale", 0, 0, 0, 1),), (("bun", (("ale", 0, 20), ("ale", 11, 20)), "youngest", (1,), 1),))
        # At 11 ale of 0 is eleven old and ale of 10 one old.
        self.assertEqual(last_age(world, "bun", 0), (2, 10))
        self.assertEqual(ready(world, "bun", 5), 7)
        self.assertEqual(ready(world, "bun", 0), 12)
        self.assertEqual([ready(world, "bun", 10 + 5 * k) for k in range(4)], [2, 2, 2, 2])

    def test_ages_that_nobody_brought(self):
        # Ale of 0 comes new, so what is made of its own kind alone is no news, however old.
        world = (2, ("ale",), (("ale", 0, 0, 0, 1),), (("ale", (("ale", 3, 6), ("ale", 9, 12)), "youngest", (1,), 2),))
        self.assertEqual(table(world), table_of(world, lambda k, place, age: 0 if place == 0 else None))
        # Bun is made of an ale of 17; with it, of one of 12; with that one, of one of 7: bun of 6, born at 14.
        world = (1, ("ale", "bun"), (("ale", 17, 0, 0, 1), ("ale", 0, 0, 0, 1)), (
            ("bun", (("ale", 17, 20),), "oldest", (0,), 1),
            ("bun", (("ale", 12, 20), ("bun", 18, 20)), "youngest", (0,), 1),
            ("bun", (("ale", 7, 20), ("bun", 13, 16)), "youngest", (0,), 1)))
        self.assertIsNone(worldfault(world))
        self.assertEqual([ready(world, "bun", origin) for origin in (-18, -17, -1, 0, 1, 5, 6, 7, FAR)],
                         [None, 18, 18, 13, 13, 9, 8, 8, 8])
        self.assertEqual(last_age(world, "bun", 0), (8, 6))
        for world in SLOW:
            least = table(world)
            latest = max(cell + age for rows in least for row in rows for age, cell in enumerate(row)
                         if cell is not None and (age == 0 or row[age - 1] != cell))
            self.assertGreater(latest, 60)

    def test_what_is_born_when_nothing_else_is_news(self):
        # From 100 on ale comes two old, which was three old before: news at 100 alone, and bun at 106.
        for wait in range(1, 7):
            for more in ((), (("cod", 0, 0, 5000, 1),)):
                world = (1, ("ale", "bun", "cod"), (("ale", 3, 0, 0, 1), ("ale", 2, 0, 100, 1)) + more,
                         (("bun", (("ale", 2, 2),), "oldest", (0,), wait),))
                self.assertEqual(last_age(world, "bun", 0), (2 + wait, 98))
                self.assertEqual(last_age(world, "cod", 0), (0, 5000) if more else None)

    def test_a_late_source(self):
        world = (4, ("ale", "bun"), (("ale", 2, 3, 0, 1), ("bun", 0, 1, SINCE, 1)),
                 (("bun", (("bun", 0, 3), ("ale", 0, 20)), "oldest", (1, 2), 1),))
        # Bun of SINCE + 1 then, and with ale there four old, of SINCE - 3, born at SINCE + 2; older ales, too.
        self.assertEqual(SINCE % 4, 0)
        least = table(world)
        self.assertEqual(least[1][1][0], SINCE + 1)
        self.assertEqual(ready(world, "bun", SINCE - 3), 5)
        self.assertEqual(ready(world, "bun", SINCE + 1), 0)
        self.assertEqual(ready(world, "bun", SINCE - 19), 21)
        self.assertIsNone(ready(world, "bun", SINCE - 23))


class TestAgainstMoments(unittest.TestCase):
    def test_what_it_has_is_what_is_gone_through(self):
        for world in small_worlds(121, 150) + list(SLOW):
            least = table(world)
            born = gone_through(world, ENDS)
            for kind in world[1]:
                for origin in range(-OLD - 1, ENDS - READY):
                    told = [age for age in range(READY + 1) if has(world, least, kind, origin, age)]
                    wanted = [age for age in range(READY + 1) if had(born, kind, origin, age)]
                    self.assertEqual(told, wanted, (world, kind, origin))

    def test_ready_and_last_age(self):
        for world in small_worlds(122, 25) + list(SLOW[:1]):
            born = gone_through(world, ENDS)
            for kind in world[1]:
                for origin in list(range(-OLD - 2, ENDS - READY, 3)):
                    wanted = born[kind, origin] - origin if (kind, origin) in born else None
                    self.assertEqual(ready(world, kind, origin), wanted)
                for place in range(world[0]):
                    rows = [(born[what, origin] - origin, origin) for (what, origin) in born
                            if what == kind and origin % world[0] == place and origin < ENDS - READY]
                    self.assertEqual(last_age(world, kind, place), min(rows) if rows else None)

    def test_moved_to_a_late_beginning(self):
        for world in small_worlds(123, 60):
            for since in (SINCE, SINCE - 1, 5000):
                # With all sources from a moment of place 0 on, or not: all is as from that moment.
                late = table(later_since(world, since))
                early = table(later_since(world, since % world[0]))
                led = since - since % world[0]
                self.assertEqual(late, tuple(tuple(tuple(
                    None if cell is None else cell + led for cell in row) for row in rows) for rows in early))

    def test_sources_that_begin_far_from_each_other(self):
        # What the first sources lead to has long come to its end when the last one begins.
        dice = random.Random(124)
        for attempt in range(60):
            world = small_world(dice)
            while len(world[2]) < 2:
                world = small_world(dice)
            late = world[2][-1]
            told = []
            for since in (300, 300 + 60 * 4999):
                other = replaced(world, (2, len(world[2]) - 1), late[:3] + (since,) + late[4:])
                told.append(table(other))
            for path in paths(told[0]):
                if len(path) == 3:
                    near, distant = found(told[0], path), found(told[1], path)
                    if near is None or near < 200:
                        self.assertEqual(distant, near)
                    else:
                        self.assertEqual(distant, near + 60 * 4999)


class TestLeast(unittest.TestCase):
    def test_a_shut_table(self):
        for world in worlds_of_all_sizes() + small_worlds(125, 100) + list(SLOW):
            least = table(world)
            self.assertTrue(is_table(world, least))
            self.assertTrue(is_shut(world, least))

    def test_as_leaks_closed_one_by_one_lead_to(self):
        for world in worlds_of_all_sizes()[:60] + small_worlds(126, 60) + list(SLOW):
            self.assertEqual(shut_by(world, leak), table(world))

    def test_within_other_shut_ones(self):
        dice = random.Random(127)
        for world in small_worlds(128, 60) + list(SLOW):
            least = table(world)
            others = [fullest_table(world)] + [shut_by(world, leak, random_table(dice, world)) for k in range(2)]
            others += [both(world, others[1], others[2]), least]
            if len(world[2]) < 6:
                more = replaced(world, (2,), world[2] + ((world[1][0], 1, 0, 0, 1),))
                others.append(table(more))
            if len(world[3]) < 8:
                more = replaced(world, (3,), world[3] + ((world[1][-1], ((world[1][0], 0, 20),), "oldest", (0,), 1),))
                others.append(table(more))
            for other in others:
                self.assertTrue(is_shut(world, other))
                self.assertTrue(within(least, other))
            self.assertEqual(both(world, least, others[1]), least)
            self.assertEqual(either(world, least, others[1]), others[1])

    def test_no_number_may_be_put_later_or_taken_away(self):
        for world in small_worlds(129, 40) + list(SLOW[:1]):
            least = table(world)
            for path in paths(least):
                if len(path) == 3 and found(least, path) is not None:
                    k, place, age = path
                    for new in (found(least, path) + world[0], found(least, path) + 7 * world[0], None):
                        self.assertFalse(is_shut(world, replaced(least, path, new)))
                        row = tuple(
                            cell if at > age or cell is None or (new is not None and cell >= new) else new
                            for at, cell in enumerate(least[k][place]))
                        other = replaced(least, (k, place), row)
                        self.assertTrue(is_table(world, other))
                        self.assertFalse(is_shut(world, other))

    def test_the_greatest_worlds(self):
        dice = random.Random(1210)
        for attempt in range(12):
            world = greatest_world(dice)
            self.assertIsNone(worldfault(world))
            least = table(world)
            self.assertTrue(is_shut(world, least))
            for kind in world[1]:
                told = last_age(world, kind, 5)
                row = [cell for cell in least[world[1].index(kind)][5] if cell is not None]
                self.assertEqual(None if told is None else told[1], row[0] if row else None)
                self.assertEqual(ready(world, kind, FAR - 5), ready(world, kind, FAR - 5 - 6))
        self.assertTrue(is_shut(LARGEST, table(LARGEST)))

    def test_the_greatest_worlds_against_moments(self):
        dice = random.Random(1211)
        for attempt in range(2):
            world = greatest_world(dice, 3)
            least = table(world)
            born = gone_through(world, 48)
            for kind in world[1]:
                for origin in range(-OLD, 48 - READY):
                    for age in range(READY + 1):
                        self.assertIs(has(world, least, kind, origin, age), had(born, kind, origin, age))


class TestReady(unittest.TestCase):
    def worlds(self):
        dice = random.Random(1212)
        return [random_world(dice) for k in range(12)] + small_worlds(1213, 12) + [PLAIN] + list(SLOW[:1])

    def test_against_the_numbers(self):
        for world in self.worlds():
            least = table(world)
            for k, kind in enumerate(world[1]):
                for place in range(world[0]):
                    row = least[k][place]
                    numbers = sorted({cell for cell in row if cell is not None})
                    near = [number + step * world[0] for number in numbers for step in (-1, 0, 1)]
                    far = [FAR - (FAR - place) % world[0] - step * world[0] for step in (0, 1)]
                    lowest = [-FAR + (place + FAR) % world[0], -OLD - world[0] + (place + OLD) % world[0]]
                    for origin in near + far + lowest:
                        ages = [age for age, cell in enumerate(row) if cell is not None and cell <= origin]
                        self.assertEqual(ready(world, kind, origin), ages[0] if ages else None)

    def test_a_round_later_no_greater_age(self):
        for world in self.worlds():
            for kind in world[1]:
                for origin in range(-OLD, 20, 5):
                    told = [ready(world, kind, origin + step * world[0]) for step in range(6)]
                    told = [READY + 1 if age is None else age for age in told]
                    self.assertEqual(told, sorted(told, reverse=True))

    def test_the_least_age_at_last(self):
        for world in self.worlds():
            for kind in world[1]:
                for place in range(world[0]):
                    told = last_age(world, kind, place)
                    far = FAR - (FAR - place) % world[0]
                    if told is None:
                        self.assertIsNone(ready(world, kind, far))
                    else:
                        age, origin = told
                        self.assertEqual(origin % world[0], place)
                        self.assertEqual(ready(world, kind, far), age)
                        self.assertEqual(ready(world, kind, origin), age)
                        self.assertEqual(ready(world, kind, origin + world[0]), age)
                        earlier = ready(world, kind, origin - world[0])
                        self.assertTrue(earlier is None or earlier > age)

    def test_last_age_against_the_table(self):
        for world in self.worlds():
            least = table(world)
            for k, kind in enumerate(world[1]):
                for place in range(world[0]):
                    ages = [age for age in range(READY + 1) if least[k][place][age] is not None]
                    wanted = (ages[0], least[k][place][ages[0]]) if ages else None
                    self.assertEqual(last_age(world, kind, place), wanted)

    def test_none_where_none_ever_can(self):
        world = (2, ("ale", "bun"), (("ale", 0, 0, 0, 1),), ())
        self.assertEqual([last_age(world, kind, place) for kind in world[1] for place in (0, 1)],
                         [(0, 0), None, None, None])
        self.assertIsNone(ready(world, "ale", FAR - 1))
        self.assertEqual(ready(world, "ale", FAR), 0)
        self.assertIsNone(ready(world, "ale", -2))
        self.assertIsNone(ready(world, "ale", -FAR))


class TestAsked(unittest.TestCase):
    def test_tuples_all_through(self):
        for world in (SMALLEST, PLAIN, LARGEST, SLOW[0]):
            told = table(world)
            for path in paths(told):
                self.assertIsInstance(found(told, path), tuple if len(path) < 3 else (int, type(None)))

    def test_the_same_question_has_the_same_answer(self):
        for world in (SMALLEST, PLAIN, LARGEST, SLOW[0]):
            ahead = copy.deepcopy(world)
            self.assertEqual(table(world), table(world))
            self.assertEqual(ready(world, world[1][0], 5), ready(world, world[1][0], 5))
            self.assertEqual(last_age(world, world[1][0], 0), last_age(world, world[1][0], 0))
            self.assertEqual(world, ahead)

    def test_defined_here(self):
        for one in (table, ready, last_age):
            self.assertEqual(one.__module__, "rightage.least")


if __name__ == "__main__":
    unittest.main()
