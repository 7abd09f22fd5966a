"""[4] and [6]: what sources bring, when ways are open, what is born."""

import copy
import itertools
import random
import unittest

from rightage.bounds import FAR, OLD, ROUND, SINCE, WAIT
from rightage.worlds import bears, brings, first_of, opens, worldfault
from tests.samples import LARGEST, PLAIN, worlds_of_all_sizes


def one_source(span, place, since):
    return (span, ("a",), (("a", 4, place, since, 1),), ())


def one_way(span, hours, keeps="oldest", wait=1, parts=1):
    return (span, ("a",), (), (("a", (("a", 0, OLD),) * parts, keeps, hours, wait),))


def places_and_rounds():
    return [(span, place) for span in range(1, ROUND + 1) for place in range(span)]


class TestBrings(unittest.TestCase):
    def test_by_hand(self):
        # Place 2 of 4, since 5: at 6, 10, 14, .. but not at 2.
        told = [moment for moment in range(20) if brings(PLAIN, 0, moment)]
        self.assertEqual(told, [6, 10, 14, 18])
        told = [moment for moment in range(10) if brings(PLAIN, 1, moment)]
        self.assertEqual(told, [0, 4, 8])

    def test_just_from_the_since_on_and_just_at_its_place(self):
        for span, place in places_and_rounds():
            for since in (0, 1, 2, 7, 30, SINCE - 1, SINCE):
                world = one_source(span, place, since)
                self.assertIsNone(worldfault(world))
                ahead = range(max(0, since - 13), since)
                self.assertFalse(any(brings(world, 0, moment) for moment in ahead))
                for moment in range(since, since + 14):
                    self.assertIs(brings(world, 0, moment), (moment - place) % span == 0)

    def test_near_far(self):
        for span, place in places_and_rounds():
            world = one_source(span, place, SINCE)
            for moment in range(FAR - 12, FAR + 1):
                self.assertIs(brings(world, 0, moment), (moment - place) % span == 0)
        self.assertTrue(brings(one_source(6, 4, 0), 0, FAR))
        self.assertFalse(brings(one_source(6, 4, 0), 0, FAR - 1))

    def test_a_round_later_too(self):
        for world in worlds_of_all_sizes():
            for source, moment in itertools.product(range(len(world[2])), range(40)):
                if brings(world, source, moment):
                    self.assertTrue(brings(world, source, moment + world[0]))

    def test_by_its_number(self):
        world = (2, ("a",), (("a", 0, 0, 0, 1), ("a", 0, 1, 0, 1), ("a", 0, 0, 4, 1)), ())
        told = [[brings(world, source, moment) for source in range(3)] for moment in (2, 3, 4)]
        self.assertEqual(told, [[True, False, False], [False, True, False], [True, False, True]])


class TestOpens(unittest.TestCase):
    def test_by_hand(self):
        self.assertEqual([moment for moment in range(12) if opens(PLAIN, 0, moment)], [0, 3, 4, 7, 8, 11])
        self.assertEqual([moment for moment in range(12) if opens(PLAIN, 1, moment)], [1, 5, 9])

    def test_just_at_a_place_of_the_hours(self):
        for span in range(1, ROUND + 1):
            for many in range(span + 1):
                for hours in itertools.combinations(range(span), many):
                    world = one_way(span, hours)
                    self.assertIsNone(worldfault(world))
                    for start in (0, SINCE - 3, FAR - 13):
                        for moment in range(start, start + 14):
                            wanted = any((moment - hour) % span == 0 for hour in hours)
                            self.assertIs(opens(world, 0, moment), wanted)

    def test_without_hours_never(self):
        world = one_way(3, ())
        self.assertFalse(any(opens(world, 0, moment) for moment in list(range(30)) + [FAR]))

    def test_at_far(self):
        # FAR leaves 4 where it is divided by 6.
        self.assertTrue(opens(one_way(6, (4,)), 0, FAR))
        self.assertFalse(opens(one_way(6, (0, 1, 2, 3, 5)), 0, FAR))


class TestFirstOf(unittest.TestCase):
    def test_by_hand(self):
        self.assertEqual(first_of(PLAIN, 0), 6)
        self.assertEqual(first_of(PLAIN, 1), 0)
        # SINCE leaves 4 where it is divided by 6.
        self.assertEqual(first_of(LARGEST, 0), SINCE + 1)
        self.assertEqual(first_of(one_source(6, 4, SINCE), 0), SINCE)
        self.assertEqual(first_of(one_source(6, 3, SINCE), 0), SINCE + 5)

    def test_the_first_at_which_it_brings(self):
        for span, place in places_and_rounds():
            for since in list(range(15)) + [SINCE - 1, SINCE]:
                world = one_source(span, place, since)
                wanted = next(moment for moment in itertools.count(max(0, since - 7)) if brings(world, 0, moment))
                self.assertEqual(first_of(world, 0), wanted)

    def test_the_since_itself_where_it_has_the_place(self):
        for span, place in places_and_rounds():
            for rounds in range(4):
                since = place + rounds * span
                self.assertEqual(first_of(one_source(span, place, since), 0), since)
                self.assertEqual(first_of(one_source(span, place, since + 1), 0), since + span)


class TestBears(unittest.TestCase):
    def test_by_hand(self):
        self.assertEqual(bears(PLAIN, 0, 8, (3, 7)), (3, 10))
        self.assertEqual(bears(PLAIN, 0, 8, (7, 3)), (3, 10))
        self.assertEqual(bears(PLAIN, 1, 9, (4,)), (4, 10))

    def test_oldest_and_youngest(self):
        rows = ((5,), (5, 5), (3, 8), (8, 3), (-4, 2), (-4, -20), (0, 0, 0), (1, 2, 3), (3, 1, 2), (2, 3, 1),
                (-FAR, FAR), (FAR, 0, -FAR), (-1, -2, -3), (7, 7, -7))
        for origins in rows:
            for wait in range(1, WAIT + 1):
                for moment in (0, 1, 11, FAR):
                    oldest = one_way(2, (0,), "oldest", wait, len(origins))
                    youngest = one_way(2, (0,), "youngest", wait, len(origins))
                    rising = sorted(origins)
                    self.assertEqual(bears(oldest, 0, moment, origins), (rising[0], moment + wait))
                    self.assertEqual(bears(youngest, 0, moment, origins), (rising[-1], moment + wait))

    def test_whatever_is_there(self):
        # Neither open then nor of the right ages, and yet told.
        world = (3, ("a",), (), (("a", (("a", 2, 3),), "oldest", (), 4),))
        self.assertEqual(bears(world, 0, 1, (50,)), (50, 5))
        self.assertEqual(bears(world, 0, 0, (-50,)), (-50, 4))

    def test_a_round_later_so_many_moments_later(self):
        dice = random.Random(6)
        for world in worlds_of_all_sizes():
            for way, (kind, parts, keeps, hours, wait) in enumerate(world[3]):
                origins = tuple(dice.randint(-30, 30) for part in parts)
                moment = dice.randint(0, 60)
                origin, born = bears(world, way, moment, origins)
                later = tuple(one + world[0] for one in origins)
                self.assertEqual(bears(world, way, moment + world[0], later), (origin + world[0], born + world[0]))
                self.assertEqual(opens(world, way, moment), opens(world, way, moment + world[0]))

    def test_tells_a_tuple_and_changes_nothing(self):
        origins = [4, 9]
        told = bears(PLAIN, 0, 12, origins)
        self.assertIs(type(told), tuple)
        self.assertEqual(origins, [4, 9])
        origins[0] = 0
        self.assertEqual(told, (4, 14))


class TestAsked(unittest.TestCase):
    def test_the_same_again_and_nothing_changed(self):
        for world in (PLAIN, LARGEST):
            ahead = copy.deepcopy(world)
            for moment in (0, 6, 7, FAR):
                self.assertEqual(brings(world, 0, moment), brings(world, 0, moment))
                self.assertEqual(opens(world, 0, moment), opens(world, 0, moment))
            self.assertEqual(first_of(world, 0), first_of(world, 0))
            self.assertEqual(world, ahead)

    def test_defined_here(self):
        for one in (worldfault, brings, opens, first_of, bears):
            self.assertEqual(one.__module__, "rightage.worlds")


if __name__ == "__main__":
    unittest.main()
