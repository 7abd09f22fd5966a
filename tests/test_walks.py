"""[21] walked."""

import copy
import inspect
import random
import unittest

from rightage.bounds import OLD, READY, SINCE
from rightage.least import ready
from rightage.walks import walked
from tests.byhand import SLOW, gone_through, greatest_world, small_world
from tests.samples import LARGEST, PLAIN, SMALLEST, replaced

# Ale comes at 2, 5, 8, .. one old; bun is made at 4, 7, .. of ale three old, born two on.
WORLD = (3, ("ale", "bun"), (("ale", 1, 2, 0, 1),), (("bun", (("ale", 3, 3),), "oldest", (1,), 2),))


def by_hand(world, last, missed=()):
    born = gone_through(world, last, missed)
    return tuple(tuple(sorted((origin, moment - origin) for (what, origin), moment in born.items() if what == kind))
                 for kind in world[1])


class TestByHand(unittest.TestCase):
    def test_moment_by_moment(self):
        ales = ((1, 1), (4, 1), (7, 1))
        for last, many, buns in ((0, 0, 0), (1, 0, 0), (2, 1, 0), (4, 1, 0), (5, 2, 0), (6, 2, 1), (7, 2, 1), (8, 3, 1),
                                 (9, 3, 2), (10, 3, 2)):
            self.assertEqual(walked(WORLD, last), (ales[:many], ((1, 5), (4, 5))[:buns]), last)

    def test_missed(self):
        self.assertEqual(walked(WORLD, 9, missed=((0, 2),)), (((4, 1), (7, 1)), ((4, 5),)))
        self.assertEqual(walked(WORLD, 9, missed=((0, 5),)), (((1, 1), (7, 1)), ((1, 5),)))
        self.assertEqual(walked(WORLD, 9, missed=((0, 8),)), (((1, 1), (4, 1)), ((1, 5), (4, 5))))
        self.assertEqual(walked(WORLD, 9, missed=((0, 8), (0, 2), (0, 5))), ((), ()))

    def test_the_same_one_missed_twice(self):
        self.assertEqual(walked(WORLD, 9, missed=((0, 5), (0, 5))), walked(WORLD, 9, missed=((0, 5),)))

    def test_missed_what_isnt_brought_anyhow(self):
        for missed in (((0, 0), (0, 1), (0, 3), (0, 4)), ((0, 11),), ((0, 10 ** 15),), ()):
            self.assertEqual(walked(WORLD, 9, missed=missed), walked(WORLD, 9))

    def test_another_source_brings_the_same(self):
        world = replaced(WORLD, (2,), WORLD[2] * 2)
        self.assertEqual(walked(world, 9), walked(WORLD, 9))
        self.assertEqual(walked(world, 9, missed=((0, 2),)), walked(WORLD, 9))
        self.assertEqual(walked(world, 9, missed=((1, 2),)), walked(WORLD, 9))
        self.assertEqual(walked(world, 9, missed=((0, 2), (1, 2))), walked(WORLD, 9, missed=((0, 2),)))
        self.assertEqual(walked(world, 9, missed=((0, 2), (1, 5))), walked(WORLD, 9))

    def test_the_least_age_of_two(self):
        # Bun of 0 comes nine old from the source at 9, and made of ale of 0 three old at 3: born at 4.
        world = (6, ("ale", "bun"), (("ale", 0, 0, 0, 1), ("bun", 9, 3, 9, 1)), (("bun", (("ale", 3, 3),), "oldest", (3,), 1),))
        self.assertEqual(walked(world, 15)[1], ((0, 4), (6, 4)))
        # Without ale of 0 it is there nine old only.
        self.assertEqual(walked(world, 15, missed=((0, 0),))[1], ((0, 9), (6, 4)))
        self.assertEqual(walked(world, 8, missed=((0, 0),))[1], ())

    def test_oldest_and_youngest(self):
        for keeps, origin in (("oldest", -2), ("youngest", 1)):
            world = (6, ("ale", "bun", "cod"), (("ale", 2, 0, 0, 1), ("bun", 0, 1, 0, 1)),
                     (("cod", (("ale", 0, 9), ("bun", 0, 9)), keeps, (3,), 4),))
            self.assertEqual(walked(world, 6)[2], ())
            self.assertEqual(walked(world, 7)[2], ((origin, 7 - origin),))

    def test_origins_below_nought(self):
        world = (1, ("a",), (("a", 20, 0, 0, 1),), ())
        self.assertEqual(walked(world, 3), (((-20, 20), (-19, 20), (-18, 20), (-17, 20)),))

    def test_nothing(self):
        self.assertEqual(walked(SMALLEST, 120), ((),))
        self.assertEqual(walked(replaced(LARGEST, (2,), ()), 120), ((),) * 4)
        self.assertEqual(walked(LARGEST, 120), ((),) * 4)
        self.assertEqual(walked((1, ("a",), (("a", 0, 0, SINCE, 1),), ()), 120, missed=((0, SINCE),)), ((),))


class TestAgainstMoments(unittest.TestCase):
    def test_small_worlds(self):
        dice = random.Random(211)
        for world in [small_world(dice) for k in range(120)] + list(SLOW) + [PLAIN]:
            for last in (0, 1, dice.randint(2, 60), 120):
                self.assertEqual(walked(world, last), by_hand(world, last))

    def test_missed(self):
        dice = random.Random(212)
        unlike = 0
        for world in [small_world(dice) for k in range(150)] + list(SLOW):
            last = dice.randint(10, 120)
            brought = [(k, moment) for k, source in enumerate(world[2]) for moment in range(last + 3)]
            missed = tuple(dice.sample(brought, min(len(brought), dice.choice((1, 3, 20)))))
            told = walked(world, last, missed=missed)
            self.assertEqual(told, by_hand(world, last, missed))
            unlike += told != walked(world, last)
        self.assertGreater(unlike, 50)

    def test_a_greatest_world(self):
        world = greatest_world(random.Random(213), 2)
        self.assertEqual(walked(world, 30, missed=((0, 3), (3, 5))), by_hand(world, 30, ((0, 3), (3, 5))))
        self.assertEqual(len(walked(world, 120)), 4)

    def test_against_ready(self):
        dice = random.Random(214)
        for world in [small_world(dice) for k in range(15)]:
            for kind, rows in zip(world[1], walked(world, 120)):
                told = dict(rows)
                for origin in range(-OLD - 1, 120 - READY, 5):
                    self.assertEqual(ready(world, kind, origin), told.get(origin))

    def test_no_less_later(self):
        dice = random.Random(215)
        for world in [small_world(dice) for k in range(20)]:
            for last in (0, 7, 40):
                for rows, more in zip(walked(world, last), walked(world, last + 1)):
                    self.assertEqual(rows, tuple(row for row in more if sum(row) <= last))


class TestAsked(unittest.TestCase):
    def test_rising_tuples_each_thing_once(self):
        for world in SLOW:
            told = walked(world, 120)
            self.assertIsInstance(told, tuple)
            for rows in told:
                self.assertIsInstance(rows, tuple)
                self.assertEqual(list(rows), sorted(rows))
                self.assertEqual(len({origin for origin, age in rows}), len(rows))
                self.assertTrue(all(isinstance(row, tuple) for row in rows))

    def test_missed_by_its_name_only(self):
        parameters = inspect.signature(walked).parameters
        self.assertEqual(parameters["missed"].kind, inspect.Parameter.KEYWORD_ONLY)
        self.assertEqual(parameters["missed"].default, ())
        with self.assertRaises(TypeError):
            walked(WORLD, 9, ((0, 2),))

    def test_nothing_is_changed_and_the_same_is_told(self):
        missed = ((0, 2), (0, 5))
        ahead = copy.deepcopy((WORLD, missed))
        self.assertEqual(walked(WORLD, 50, missed=missed), walked(WORLD, 50, missed=missed))
        self.assertEqual((WORLD, missed), ahead)

    def test_defined_here(self):
        self.assertEqual(walked.__module__, "rightage.walks")


if __name__ == "__main__":
    unittest.main()
