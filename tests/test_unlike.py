"""[19] parted, needless and lacks."""

import copy
import random
import unittest

from rightage.beside import later, twice, without
from rightage.bounds import READY, SINCE
from rightage.errors import Unlike
from rightage.least import table
from rightage.unlike import lacks, needless, parted
from rightage.worlds import worldfault
from tests.byhand import SLOW, gone_through, greatest_world, small_world
from tests.samples import LARGEST, PLAIN, SMALLEST, random_world, replaced

KINDS = ("ale", "bun", "cod", "dip")
# Far enough for the worlds of small_world: by then a round goes as the one ahead.
LAST_MOMENT = 90


def parted_by_hand(one, other, last=LAST_MOMENT):
    """What parted tells, by going through both worlds up to that moment; None where nothing parts them by then."""
    here, there = gone_through(one, last), gone_through(other, last)
    told = []
    for thing in set(here) | set(there):
        if here.get(thing) != there.get(thing):
            moment = min(born[thing] for born in (here, there) if thing in born)
            told.append((moment, thing[0], thing[1], moment - thing[1]))
    return min(told)[1:] if told else None


def with_kinds(world, kinds):
    """The world with all these kinds."""
    return replaced(world, (1,), kinds)


def spoilt(dice, world):
    """The world with one thing changed, or the same one."""
    span, kinds, sources, ways = world
    turn = dice.randrange(7)
    if turn == 0 and ways:
        return without(world, "way", dice.randrange(len(ways)))
    if turn == 1 and sources:
        return without(world, "source", dice.randrange(len(sources)))
    if turn == 2 and ways:
        return replaced(world, (3, dice.randrange(len(ways)), 4), dice.randint(1, 6))
    if turn == 3 and ways:
        hours = tuple(sorted(dice.sample(range(span), dice.randint(0, span))))
        return replaced(world, (3, dice.randrange(len(ways)), 3), hours)
    if turn == 4 and sources:
        return replaced(world, (2, dice.randrange(len(sources)), 3), dice.randint(0, 20))
    if turn == 5 and ways:
        return replaced(world, (3, dice.randrange(len(ways)), 2), dice.choice(("oldest", "youngest")))
    if turn == 6 and sources:
        return replaced(world, (2, dice.randrange(len(sources)), 1), dice.randint(0, 20))
    return world


class TestParted(unittest.TestCase):
    def same(self, one, other, wanted):
        self.assertEqual(parted(one, other), wanted)
        self.assertEqual(parted(other, one), wanted)
        if wanted is not None:
            self.assertIs(type(parted(one, other)), tuple)

    def test_the_same_world(self):
        for world in (SMALLEST, PLAIN, LARGEST) + SLOW:
            self.same(world, world, None)

    def test_the_round_told_twice(self):
        dice = random.Random(191)
        done = 0
        while done < 40:
            world = small_world(dice)
            if world[0] <= 3 and len(world[2]) <= 3:
                self.same(world, twice(world), None)
                done += 1

    def test_a_way_twice_and_other_orders(self):
        dice = random.Random(192)
        for k in range(40):
            span, kinds, sources, ways = small_world(dice)
            world = (span, kinds, sources, ways)
            if ways:
                self.same(world, (span, kinds, sources, ways + (dice.choice(ways),)), None)
            if sources:
                self.same(world, (span, kinds, sources + (dice.choice(sources),), ways), None)
            self.same(world, (span, kinds, sources[::-1], ways[::-1]), None)
            self.same(world, (span, kinds, sources, ways[1:] + ways[:1]), None)

    def test_what_doesnt_matter(self):
        # How many are brought, and by when a source begins between two of its moments.
        self.same(PLAIN, replaced(PLAIN, (2, 0, 4), 9), None)
        self.same(PLAIN, replaced(PLAIN, (2, 0, 3), 3), None)
        self.same(PLAIN, replaced(PLAIN, (2, 0, 3), 6), None)
        self.same(PLAIN, replaced(PLAIN, (2, 0, 3), 7), ("bud", 3, 3))
        self.same(PLAIN, replaced(PLAIN, (2, 0, 3), 2), ("bud", -1, 3))

    def test_nothing_at_all(self):
        for span in range(1, 7):
            self.same(SMALLEST, (span, ("a",), (), ()), None)
            self.same(SMALLEST, (span, ("a",), (), (("a", (("a", 0, 20),), "oldest", (0,), 1),)), None)
            # Just one can have it at all.
            self.same(SMALLEST, (span, ("a",), (("a", 7, span - 1, 30, 1),), ()),
                      ("a", 30 + (span - 1 - 30) % span - 7, 7))

    def test_the_least_moment(self):
        # Both bring ale; just one brings bun, just the other cod, later.
        one = (1, KINDS, (("ale", 0, 0, 0, 1), ("dip", 4, 0, 8, 1)), ())
        other = (1, KINDS, (("ale", 0, 0, 0, 1), ("bun", 2, 0, 9, 1)), ())
        self.same(one, other, ("dip", 4, 4))
        other = replaced(other, (2, 1, 3), 7)
        self.same(one, other, ("bun", 5, 2))
        # At the same moment the least tuple: by kind, then by origin.
        other = replaced(other, (2, 1, 3), 8)
        self.same(one, other, ("bun", 6, 2))
        self.same(replaced(one, (2, 1, 0), "bun"), other, ("bun", 4, 4))
        self.same(replaced(one, (2, 1), ("bun", 1, 0, 8, 1)), other, ("bun", 6, 2))

    def test_a_thing_that_comes_at_an_unlike_age(self):
        one = (1, ("a",), (("a", 3, 0, 0, 1),), ())
        other = (1, ("a",), (("a", 5, 0, 0, 1),), ())
        # At 0 the one brings what began at -3, the other what began at -5.
        self.same(one, other, ("a", -5, 5))
        other = (1, ("a",), (("a", 5, 0, 0, 1), ("a", 3, 0, 4, 1)), ())
        self.same(one, other, ("a", -5, 5))
        # Made one moment later: there by another age.
        one = (1, ("a", "b"), (("a", 0, 0, 0, 1),), (("b", (("a", 2, 2),), "oldest", (0,), 1),))
        self.same(one, replaced(one, (3, 0, 4), 2), ("b", 0, 3))

    def test_rounds_unlike(self):
        two = (2, ("a",), (("a", 0, 0, 0, 1),), ())
        three = (3, ("a",), (("a", 0, 0, 0, 1),), ())
        self.same(two, three, ("a", 2, 0))
        # At 0 and 2, 6 and 8 and so on both bring.
        three = (3, ("a",), (("a", 0, 0, 0, 1), ("a", 0, 2, 0, 1)), ())
        self.same(two, three, ("a", 3, 0))
        five = (5, ("a",), tuple(("a", 0, place, 0, 1) for place in range(5)), ())
        six = (6, ("a",), tuple(("a", 0, place, 0, 1) for place in range(6)), ())
        self.same(five, six, None)
        self.same(five, replaced(six, (2, 5, 3), 30), ("a", 5, 0))
        self.same(replaced(five, (2, 3, 3), 27), six, ("a", 3, 0))
        self.same(replaced(five, (2, 4, 3), 20), replaced(six, (2, 4, 3), 5), ("a", 9, 0))

    def test_far_off(self):
        world = (6, ("a",), (("a", 0, 5, 0, 1), ("a", 4, 0, SINCE, 1)), ())
        first = SINCE + (0 - SINCE) % 6
        self.same(world, without(world, "source", 1), ("a", first - 4, 4))
        self.same(world, replaced(world, (2, 1, 3), SINCE - 9), ("a", first - 6 - 4, 4))

    def test_against_going_through_both(self):
        dice = random.Random(193)
        none = some = 0
        for k in range(250):
            one = small_world(dice)
            other = spoilt(dice, one)
            self.assertIsNone(worldfault(other))
            wanted = parted_by_hand(one, other)
            self.same(one, other, wanted)
            none, some = none + (wanted is None), some + (wanted is not None)
        self.assertGreater(min(none, some), 40)

    def test_against_going_through_both_with_rounds_unlike(self):
        dice = random.Random(194)
        some = set()
        for k in range(150):
            one = small_world(dice)
            if one[0] <= 3 and len(one[2]) <= 3 and k % 2:
                other = spoilt(dice, twice(one))
            else:
                other = with_kinds(small_world(dice), KINDS)
                one = with_kinds(one, KINDS)
            wanted = parted_by_hand(one, other)
            self.same(one, other, wanted)
            if wanted is not None:
                some.add((one[0], other[0]))
        self.assertGreater(len(some), 20)

    def test_worlds_that_part_late(self):
        for world in SLOW:
            for way in range(len(world[3])):
                for other in (without(world, "way", way), replaced(world, (3, way, 4), world[3][way][4] % 6 + 1)):
                    self.same(world, other, parted_by_hand(world, other, 260))

    def test_at_the_bounds(self):
        dice = random.Random(195)
        for k in range(20):
            world = greatest_world(dice)
            self.same(world, world, None)
            other = replaced(world, (0,), 5)
            other = replaced(other, (2,), tuple(row[:2] + (min(row[2], 4),) + row[3:] for row in other[2]))
            other = replaced(other, (3,), tuple(row[:3] + (row[3][:5],) + row[4:] for row in other[3]))
            self.assertIsNone(worldfault(other))
            self.assertEqual(parted(world, other), parted(other, world))

    def test_unlike(self):
        for one, other in (
                (SMALLEST, PLAIN), (SMALLEST, (1, ("b",), (), ())), (SMALLEST, (1, ("a", "b"), (), ())),
                (PLAIN, replaced(PLAIN, (1,), ("bud", "jam", "oat", "rye"))), ((2, ("a",), (), ()), (3, ("b",), (), ()))):
            for pair in ((one, other), (other, one)):
                with self.assertRaises(Unlike):
                    parted(*pair)


class TestNeedless(unittest.TestCase):
    def test_none(self):
        self.assertEqual(needless(SMALLEST), ())
        world = (1, ("a", "b"), (("a", 0, 0, 0, 1),), (("b", (("a", 2, 3),), "oldest", (0,), 1),))
        self.assertEqual(needless(world), ())
        # Jam made of jam alone is the same jam, later; rye made of it is new.
        self.assertEqual(needless(PLAIN), (1,))
        self.assertEqual(needless(replaced(PLAIN, (3, 1, 0), "rye")), ())

    def test_without_hours(self):
        way = ("b", (("a", 2, 3),), "oldest", (0,), 1)
        idle = ("b", (("a", 0, 20),), "oldest", (), 1)
        world = (1, ("a", "b"), (("a", 0, 0, 0, 1),), (idle, way, idle))
        self.assertEqual(needless(world), (0, 2))
        self.assertEqual(needless(replaced(world, (3,), (idle,) * 8)), tuple(range(8)))

    def test_twice(self):
        way = ("b", (("a", 2, 3),), "oldest", (0,), 1)
        other = ("a", (("b", 5, 5),), "oldest", (0,), 2)
        world = (1, ("a", "b"), (("a", 0, 0, 0, 1),), (way, other, way))
        # What the other makes is old ale that is there anyhow.
        self.assertEqual(needless(world), (0, 1, 2))
        self.assertEqual(needless(replaced(world, (3,), (way, other))), (1,))
        self.assertEqual(needless(replaced(world, (3,), (way,))), ())

    def test_nothing_new(self):
        # The one makes a part of what the other makes.
        wide = ("b", (("a", 2, 6),), "oldest", (0, 1), 1)
        narrow = ("b", (("a", 3, 6),), "oldest", (1,), 1)
        world = (2, ("a", "b"), (("a", 0, 0, 0, 1),), (wide, narrow))
        self.assertEqual(needless(world), (1,))
        # Parts that never are there.
        barred = ("a", (("b", 20, 20), ("a", 0, 0)), "youngest", (1,), 1)
        self.assertEqual(needless(replaced(world, (3,), (barred, wide, barred))), (0, 2))

    def test_each_alone(self):
        for world in [PLAIN, LARGEST] + list(SLOW) + [small_world(dice) for dice in [random.Random(196)] for k in range(60)]:
            told = needless(world)
            self.assertIs(type(told), tuple)
            least = table(world)
            self.assertEqual(told, tuple(way for way in range(len(world[3])) if table(without(world, "way", way)) == least))
            for way in range(len(world[3])):
                self.assertEqual(way in told, parted(world, without(world, "way", way)) is None)

    def test_against_going_through(self):
        dice = random.Random(197)
        for k in range(60):
            world = small_world(dice)
            born = gone_through(world, LAST_MOMENT)
            self.assertEqual(needless(world), tuple(
                way for way in range(len(world[3])) if gone_through(without(world, "way", way), LAST_MOMENT) == born))


class TestLacks(unittest.TestCase):
    def test_the_same(self):
        for world in (SMALLEST, PLAIN, LARGEST) + SLOW:
            self.assertEqual(lacks(world, world), ())
            self.assertEqual(lacks(world, world[:3] + (world[3][::-1],)), ())

    def test_by_hand(self):
        one = (2, ("a", "b"), (("a", 24 - 4, 1, 0, 1), ("b", 20, 0, 5, 1)), ())
        other = (2, ("a", "b"), (("b", 19, 0, 5, 1),), ())
        self.assertEqual(lacks(one, other), tuple(
            [("a", 1, age, -19, None) for age in range(20, 27)] + [("b", 0, age, -14, None) for age in range(20, 27)]
            + [("b", 1, age, None, -13) for age in range(19, 27)]))

    def test_numbers_unlike(self):
        one = (3, ("a",), (("a", 25 - 6, 1, 7, 1),), ())
        self.assertEqual(lacks(one, later(one, 3)), tuple(("a", 0, age, -12, -9) for age in range(19, 27)))
        self.assertEqual(lacks(later(one, 3), one), tuple(("a", 0, age, -9, -12) for age in range(19, 27)))

    def test_against_both_tables(self):
        dice = random.Random(198)
        some = 0
        for k in range(200):
            one = small_world(dice) if k % 2 else random_world(dice)
            other = spoilt(dice, spoilt(dice, one))
            here, there = table(one), table(other)
            told = lacks(one, other)
            self.assertIs(type(told), tuple)
            keys = [row[:3] for row in told]
            self.assertEqual(keys, sorted(set(keys)))
            rows = {row[:3]: row[3:] for row in told}
            for k, kind in enumerate(one[1]):
                for place in range(one[0]):
                    for age in range(READY + 1):
                        pair = (here[k][place][age], there[k][place][age])
                        self.assertEqual(rows.pop((kind, place, age), None), pair if pair[0] != pair[1] else None)
            self.assertEqual(rows, {})
            self.assertEqual(told == (), parted(one, other) is None)
            some += told != ()
        self.assertGreater(some, 80)

    def test_unlike(self):
        for one, other in (
                (SMALLEST, PLAIN), (SMALLEST, (1, ("b",), (), ())), (SMALLEST, (2, ("a",), (), ())),
                (SMALLEST, (1, ("a", "b"), (), ())), ((1, ("a",), (("a", 0, 0, 0, 1),), ()), (2, ("a",), (("a", 0, 0, 0, 1),), ()))):
            for pair in ((one, other), (other, one)):
                with self.assertRaises(Unlike):
                    lacks(*pair)
        world = (1, ("a",), (("a", 0, 0, 0, 1),), ())
        with self.assertRaises(Unlike):
            lacks(world, twice(world))


class TestAll(unittest.TestCase):
    def test_the_same_question_has_the_same_answer(self):
        dice = random.Random(199)
        for k in range(10):
            one = small_world(dice)
            other = spoilt(dice, one)
            kept = copy.deepcopy((one, other))
            first = (parted(one, other), needless(one), lacks(one, other))
            self.assertEqual((parted(one, other), needless(one), lacks(one, other)), first)
            self.assertEqual((one, other), kept)


if __name__ == "__main__":
    unittest.main()
