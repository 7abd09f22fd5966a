"""[18] without, later, twice, renamed and joined."""

import copy
import random
import unittest

from rightage.beside import joined, later, renamed, twice, without
from rightage.bounds import KINDS, READY, ROUND, SINCE, SOURCES, WAYS
from rightage.errors import BadNames, Clash, Full, Unlike
from rightage.least import table
from rightage.worlds import worldfault
from tests.byhand import SLOW, gone_through, had, small_world
from tests.samples import LARGEST, ODD, ODD_TUPLES, PLAIN, SMALLEST, random_world, replaced, table_of, worlds_of_all_sizes


def some_worlds(seed, many):
    dice = random.Random(seed)
    return [SMALLEST, PLAIN] + list(SLOW) + [small_world(dice) for k in range(many)]


class TestWithout(unittest.TestCase):
    def test_by_hand(self):
        span, kinds, sources, ways = PLAIN
        self.assertEqual(without(PLAIN, "source", 0), (span, kinds, sources[1:], ways))
        self.assertEqual(without(PLAIN, "source", 1), (span, kinds, sources[:1], ways))
        self.assertEqual(without(PLAIN, "way", 0), (span, kinds, sources, ways[1:]))
        self.assertEqual(without(PLAIN, "way", 1), (span, kinds, sources, ways[:1]))

    def test_each_source_and_each_way(self):
        for world in worlds_of_all_sizes():
            for at, word in ((2, "source"), (3, "way")):
                for number in range(len(world[at])):
                    told = without(world, word, number)
                    self.assertIsNone(worldfault(told))
                    rows = list(world[at])
                    del rows[number]
                    self.assertEqual(told, replaced(world, (at,), tuple(rows)))

    def test_alike_ones(self):
        for number in range(SOURCES):
            self.assertEqual(len(without(LARGEST, "source", number)[2]), SOURCES - 1)
        for number in range(WAYS):
            self.assertEqual(len(without(LARGEST, "way", number)[3]), WAYS - 1)

    def test_no_more_can_be_had(self):
        for world in some_worlds(181, 20):
            least = table(world)
            for at, word in ((2, "source"), (3, "way")):
                for number in range(len(world[at])):
                    for rows, lesser in zip(least, table(without(world, word, number))):
                        for row, other in zip(rows, lesser):
                            for cell, less in zip(row, other):
                                self.assertTrue(less is None or (cell is not None and cell <= less))


class TestLater(unittest.TestCase):
    def test_by_hand(self):
        self.assertEqual(later(PLAIN, 3), (
            4, ("bud", "jam", "rye"), (("bud", 3, 1, 8, 4), ("rye", 0, 3, 3, 1)),
            (("jam", (("bud", 1, 7), ("rye", 0, 4)), "oldest", (2, 3), 2), ("jam", (("jam", 2, 9),), "youngest", (0,), 1))))

    def test_by_nought(self):
        for world in worlds_of_all_sizes():
            self.assertEqual(later(world, 0), world)

    def test_hours_rise(self):
        world = (6, ("a",), (), (("a", (("a", 0, 1),), "oldest", (0, 2, 3, 5), 1),))
        hours = [later(world, moments)[3][0][3] for moments in (1, 2, 3, 4, 5, 6, 7, 600001)]
        self.assertEqual(hours, [
            (0, 1, 3, 4), (1, 2, 4, 5), (0, 2, 3, 5), (0, 1, 3, 4), (1, 2, 4, 5), (0, 2, 3, 5), (0, 1, 3, 4), (0, 1, 3, 4)])

    def test_worlds_again(self):
        for world in worlds_of_all_sizes():
            latest = max([source[3] for source in world[2]], default=0)
            for moments in (1, 5, 7, 1000, SINCE):
                if latest + moments <= SINCE:
                    self.assertIsNone(worldfault(later(world, moments)))

    def test_by_bits_is_by_all_at_once(self):
        for world in some_worlds(182, 60):
            for one, other in ((1, 1), (2, 5), (6, 1), (100, 1000)):
                self.assertEqual(later(later(world, one), other), later(world, one + other))

    def test_full(self):
        world = (1, ("a",), (("a", 0, 0, 0, 1), ("a", 0, 0, 400, 1), ("a", 0, 0, 7, 1)), ())
        self.assertEqual([source[3] for source in later(world, SINCE - 400)[2]], [SINCE - 400, SINCE, SINCE - 393])
        for moments in (SINCE - 399, SINCE - 10, SINCE):
            with self.assertRaises(Full):
                later(world, moments)
        with self.assertRaises(Full):
            later(LARGEST, 1)
        self.assertEqual(later(LARGEST, 0), LARGEST)

    def test_without_sources_never_full(self):
        self.assertEqual(later(SMALLEST, SINCE), SMALLEST)
        self.assertIsNone(worldfault(later(replaced(LARGEST, (2,), ()), SINCE)))

    def test_the_least_table(self):
        for world in some_worlds(183, 60):
            least = table(world)
            for moments in (1, 2, world[0], world[0] + 1, 100, 100001):
                def led(k, place, age):
                    cell = least[k][(place - moments) % world[0]][age]
                    return None if cell is None else cell + moments
                self.assertEqual(table(later(world, moments)), table_of(world, led))


class TestTwice(unittest.TestCase):
    def test_by_hand(self):
        world = (3, ("a", "b"), (("a", 4, 1, 7, 2), ("b", 0, 0, 0, 9), ("a", 4, 1, 7, 2)),
                 (("b", (("a", 0, 5), ("b", 1, 1)), "oldest", (0, 2), 2), ("a", (("a", 0, 0),), "youngest", (), 1)))
        self.assertEqual(twice(world), (
            6, ("a", "b"),
            (("a", 4, 1, 7, 2), ("a", 4, 4, 7, 2), ("b", 0, 0, 0, 9), ("b", 0, 3, 0, 9), ("a", 4, 1, 7, 2), ("a", 4, 4, 7, 2)),
            (("b", (("a", 0, 5), ("b", 1, 1)), "oldest", (0, 2, 3, 5), 2), ("a", (("a", 0, 0),), "youngest", (), 1))))

    def test_rounds(self):
        for span in range(1, ROUND + 1):
            world = (span, ("a",), (), (("a", (("a", 0, 0),), "oldest", tuple(range(span)), 1),))
            if span > 3:
                with self.assertRaises(Full):
                    twice(world)
            else:
                self.assertEqual(twice(world)[0], 2 * span)
                self.assertEqual(twice(world)[3][0][3], tuple(range(2 * span)))
                self.assertIsNone(worldfault(twice(world)))

    def test_sources(self):
        for many in range(SOURCES + 1):
            world = (2, ("a",), (("a", 0, 1, 3, 1),) * many, ())
            if many > 3:
                with self.assertRaises(Full):
                    twice(world)
            else:
                self.assertEqual(twice(world)[2], (("a", 0, 1, 3, 1), ("a", 0, 3, 3, 1)) * many)
        with self.assertRaises(Full):
            twice((4, ("a",), (), ()))
        with self.assertRaises(Full):
            twice(LARGEST)

    def test_the_same_can_be_had(self):
        seen = 0
        for world in some_worlds(184, 80):
            if world[0] <= 3 and len(world[2]) <= 3:
                seen += 1
                least, longer = table(world), table(twice(world))
                self.assertIsNone(worldfault(twice(world)))
                # What is had from a number on is had, by both places, from it or from a round later on.
                for k, rows in enumerate(longer):
                    for place, row in enumerate(rows):
                        for age, cell in enumerate(row):
                            first = least[k][place % world[0]][age]
                            wanted = first if first is None or first % (2 * world[0]) == place else first + world[0]
                            self.assertEqual(cell, wanted)
        self.assertGreater(seen, 20)

    def test_against_moments(self):
        dice = random.Random(185)
        for attempt in range(10):
            world = small_world(dice)
            while world[0] > 3:
                world = small_world(dice)
            self.assertEqual(gone_through(world, 60), gone_through(twice(world), 60))


class TestRenamed(unittest.TestCase):
    def test_names_that_turn_the_order_round(self):
        self.assertEqual(renamed(PLAIN, ("zoo", "mid", "abc")), (
            4, ("abc", "mid", "zoo"), (("zoo", 3, 2, 5, 4), ("abc", 0, 0, 0, 1)),
            (("mid", (("zoo", 1, 7), ("abc", 0, 4)), "oldest", (0, 3), 2), ("mid", (("mid", 2, 9),), "youngest", (1,), 1))))

    def test_names_that_exchange_two_kinds(self):
        told = renamed(PLAIN, ("jam", "bud", "rye"))
        self.assertEqual(told, (
            4, ("bud", "jam", "rye"), (("jam", 3, 2, 5, 4), ("rye", 0, 0, 0, 1)),
            (("bud", (("jam", 1, 7), ("rye", 0, 4)), "oldest", (0, 3), 2), ("bud", (("bud", 2, 9),), "youngest", (1,), 1))))
        self.assertEqual(renamed(told, ("jam", "bud", "rye")), PLAIN)

    def test_the_same_ones(self):
        for world in worlds_of_all_sizes():
            self.assertEqual(renamed(world, world[1]), world)

    def test_bad_names(self):
        for names in ODD + ODD_TUPLES + (
                ("a", "b"), ("a", "b", "c", "d"), ["a", "b", "c"], ("a", "b", "b"), ("a", "a", "b"), ("b", "a", "b"),
                ("a", "b", "C"), ("a", "b", ""), ("a", "b", "abcdefghi"), ("a", "b", 3), ("a", "b", None),
                ("a", "b", ["c"]), ("a", "b", ("c",)), ({}, "b", "c"), ([], [], []), ("a", "b", "c "), "abc",
                {"bud": "a", "jam": "b", "rye": "c"}, PLAIN[1] + ("z",), PLAIN[1][:2], ("a", "b", True), ("a", "b", "c\n")):
            with self.assertRaises(BadNames):
                renamed(PLAIN, names)
        self.assertEqual(renamed(PLAIN, ("a", "b", "abcdefgh"))[1], ("a", "abcdefgh", "b"))

    def test_the_least_table(self):
        dice = random.Random(186)
        for world in some_worlds(187, 50):
            names = dice.sample(("ox", "elk", "bat", "yak", "a", "zz", "ale", "bun"), len(world[1]))
            other = renamed(world, tuple(names))
            self.assertIsNone(worldfault(other))
            least, told = table(world), table(other)
            for k, name in enumerate(names):
                self.assertEqual(told[other[1].index(name)], least[k])

    def test_names_stay_as_they_were(self):
        names = ["a", ["b"]]
        with self.assertRaises(BadNames):
            renamed(PLAIN, names)
        self.assertEqual(names, ["a", ["b"]])


class TestJoined(unittest.TestCase):
    other = (4, ("ale", "kit"), (("kit", 1, 1, 1, 1),), (("ale", (("kit", 0, 3),), "oldest", (2,), 1),))

    def test_by_hand(self):
        one = (4, ("jam", "rye"), (("rye", 0, 0, 0, 1),), (("jam", (("rye", 0, 4),), "oldest", (0, 3), 2),))
        for first, second in ((one, self.other), (self.other, one)):
            self.assertEqual(joined(first, second), (
                4, ("ale", "jam", "kit", "rye"), first[2] + second[2], first[3] + second[3]))

    def test_unlike(self):
        for span in (1, 2, 3, 5, 6):
            other = (span, ("bee",), (), ())
            with self.assertRaises(Unlike):
                joined(self.other, other)
            with self.assertRaises(Unlike):
                joined(other, self.other)

    def test_unlike_ahead_of_clash(self):
        with self.assertRaises(Unlike):
            joined((2, ("a",), (), ()), (3, ("a",), (), ()))

    def test_the_least_kind_of_both(self):
        for one, other, kind in (
                (("a",), ("a",), "a"), (("a", "b"), ("b", "c"), "b"), (("b", "c"), ("a", "b", "c"), "b"),
                (("a", "m", "z"), ("b", "m", "z"), "m"), (("a", "z"), ("b", "z"), "z"), (("a", "b", "c", "d"),) * 2 + ("a",)):
            for first, second in ((one, other), (other, one)):
                with self.assertRaises(Clash) as caught:
                    joined((2, first, (), ()), (2, second, (), ()))
                self.assertEqual(caught.exception.kind, kind)

    def test_clash_ahead_of_full(self):
        with self.assertRaises(Clash):
            joined(LARGEST, LARGEST)

    def test_full_by_kinds(self):
        self.assertEqual(KINDS, 4)
        self.assertEqual(len(joined((1, ("a", "b"), (), ()), (1, ("c", "d"), (), ()))[1]), 4)
        for one, other in ((("a", "b", "c"), ("d", "e")), (("a", "b", "c", "d"), ("e",)), (("e",), ("a", "b", "c", "d"))):
            with self.assertRaises(Full):
                joined((1, one, (), ()), (1, other, (), ()))

    def test_full_by_sources(self):
        for many in range(SOURCES + 1):
            for beside in range(SOURCES + 1):
                one = (1, ("a",), (("a", 0, 0, 0, 1),) * many, ())
                other = (1, ("b",), (("b", 0, 0, 0, 1),) * beside, ())
                if many + beside > SOURCES:
                    with self.assertRaises(Full):
                        joined(one, other)
                else:
                    self.assertEqual(joined(one, other)[2], one[2] + other[2])

    def test_full_by_ways(self):
        for many in (0, 1, 4, 7, 8):
            for beside in (0, 1, 4, 5, 8):
                one = (1, ("b",), (), (("b", (("b", 0, 0),), "oldest", (), 1),) * many)
                other = (1, ("a",), (), (("a", (("a", 0, 0),), "oldest", (), 1),) * beside)
                if many + beside > WAYS:
                    with self.assertRaises(Full):
                        joined(one, other)
                else:
                    self.assertEqual(joined(one, other), (1, ("a", "b"), (), one[3] + other[3]))

    def test_the_least_table(self):
        dice = random.Random(188)
        seen = 0
        while seen < 40:
            one, other = small_world(dice), random_world(dice)
            other = renamed(other, ("x", "apple", "bunny", "y")[:len(other[1])])
            if one[0] == other[0] and len(one[1]) + len(other[1]) <= KINDS \
                    and len(one[2]) + len(other[2]) <= SOURCES and len(one[3]) + len(other[3]) <= WAYS:
                seen += 1
                whole = joined(one, other)
                self.assertIsNone(worldfault(whole))
                told = {kind: rows for kind, rows in zip(whole[1], table(whole))}
                wanted = dict(zip(one[1] + other[1], table(one) + table(other)))
                self.assertEqual(told, wanted)


class TestAsked(unittest.TestCase):
    def test_nothing_is_changed_and_the_same_is_told(self):
        ahead = copy.deepcopy((PLAIN, TestJoined.other))
        calls = (lambda: without(PLAIN, "way", 0), lambda: later(PLAIN, 3), lambda: renamed(PLAIN, ("c", "b", "a")),
                 lambda: twice((2, ("a",), (("a", 0, 0, 0, 1),), ())), lambda: joined(SMALLEST, (1, ("b",), (), ())))
        for call in calls:
            self.assertEqual(call(), call())
            self.assertIsNone(worldfault(call()))
        self.assertEqual((PLAIN, TestJoined.other), ahead)

    def test_what_was_had_is_had_the_same(self):
        # A world later by a round is as if nothing came for a round.
        for world in some_worlds(189, 10):
            born = gone_through(world, 60)
            late = gone_through(later(world, world[0]), 60 + world[0])
            for (kind, origin), moment in born.items():
                self.assertTrue(had(late, kind, origin + world[0], READY))
                self.assertEqual(late[kind, origin + world[0]], moment + world[0])

    def test_defined_here(self):
        for one in (without, later, twice, renamed, joined):
            self.assertEqual(one.__module__, "rightage.beside")


if __name__ == "__main__":
    unittest.main()
