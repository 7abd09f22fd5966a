"""[22] lost."""

import copy
import random
import unittest

from rightage.beside import without
from rightage.bounds import FAR, LOST, OLD, SINCE
from rightage.errors import NoBringing, TooMany
from rightage.losses import lost
from rightage.walks import walked
from rightage.worlds import brings, worldfault
from tests.byhand import SLOW, gone_through, greatest_world, small_world
from tests.samples import LARGEST, PLAIN, replaced, worlds_of_all_sizes

# Ale comes once a round of three; bun is made of it and cod of bun and ale.
WORLD = (
    3, ("ale", "bun", "cod"), (("ale", 0, 1, 4, 1),),
    (
        ("bun", (("ale", 2, 6),), "oldest", (0,), 1),
        ("cod", (("ale", 0, 9), ("bun", 4, 9)), "youngest", (1, 2), 2),
    ))


def lost_by_hand(world, source, moment, last):
    """What lost tells, by two walks up to that moment: one row for each, however many."""
    whole = gone_through(world, last)
    lacking = gone_through(world, last, ((source, moment),))
    told = []
    for kind, origin in whole:
        born, later = whole[kind, origin], lacking.get((kind, origin))
        if born != later:
            told.append((kind, origin, born - origin, None if later is None else later - origin))
    return tuple(sorted(told, key=lambda row: row[:2]))


def bringing(world, source, moment):
    """The first moment from that one on at which the source brings."""
    while not brings(world, source, moment):
        moment += 1
    return moment


def busy_world(dice):
    """Some world in which much hangs on one bringing: few sources, wide windows."""
    span = dice.randint(1, 6)
    kinds = ("ale", "bun", "cod", "dip")[:dice.randint(2, 4)]
    sources = tuple(
        (dice.choice(kinds[:2]), dice.choice((0, 0, 3)), dice.randrange(span), dice.choice((0, 0, 2, 12)), 1)
        for k in range(dice.choice((1, 1, 2))))
    ways = []
    for k in range(dice.randint(1, 5)):
        parts = []
        for j in range(dice.choice((1, 2, 2))):
            least = dice.choice((0, 0, 2, 5, 12))
            parts.append((dice.choice(kinds), least, min(OLD, least + dice.choice((0, 3, 8)))))
        hours = tuple(sorted(dice.sample(range(span), dice.randint(1, span))))
        ways.append((dice.choice(kinds), tuple(parts), dice.choice(("oldest", "youngest", "youngest")), hours, dice.randint(1, 4)))
    return (span, kinds, sources, tuple(ways))


def late_world(dice):
    """Some world in which a second source begins late and makes much of what the first has brought."""
    span = dice.randint(1, 3)
    sources = tuple(("ale", 0, place, 0, 1) for place in range(span)) + (
        ("bun", dice.choice((0, 4, 12)), dice.randrange(span), dice.randint(20, 30), 1),)
    parts = (("bun", dice.choice((0, 5, 12)), dice.choice((12, 20))), ("ale", dice.choice((0, 2)), dice.randint(4, 14)))
    ways = (
        ("bun", parts, dice.choice(("oldest", "youngest")), tuple(range(dice.randint(1, span))), dice.randint(1, 3)),
        ("cod", (("bun", 3, dice.randint(3, 9)),), "oldest", (0,), 1))
    return (span, ("ale", "bun", "cod"), sources, ways)


class TestByHand(unittest.TestCase):
    def test_what_is_brought_alone(self):
        world = (3, ("ale",), (("ale", 5, 2, 4, 1),), ())
        self.assertEqual(lost(world, 0, 5), (("ale", 0, 5, None),))
        self.assertEqual(lost(world, 0, 8), (("ale", 3, 5, None),))
        # Brought again, older: it comes later.
        world = (3, ("ale",), (("ale", 5, 2, 4, 1), ("ale", 9, 0, 0, 1)), ())
        self.assertEqual(lost(world, 0, 5), (("ale", 0, 5, 9),))
        self.assertEqual(lost(world, 1, 9), ())
        # Those brought ahead of the other source's beginning are the only ones.
        self.assertEqual(lost(world, 1, 0), (("ale", -9, 9, None),))
        self.assertEqual(lost(world, 1, 3), (("ale", -6, 9, None),))
        self.assertEqual(lost(world, 1, 6), (("ale", -3, 9, None),))

    def test_nothing_where_another_source_brings_the_same(self):
        world = (3, ("ale",), (("ale", 5, 2, 4, 1), ("ale", 5, 2, 8, 3)), ())
        self.assertEqual(lost(world, 0, 5), (("ale", 0, 5, None),))
        self.assertEqual(lost(world, 0, 8), ())
        self.assertEqual(lost(world, 1, 8), ())
        self.assertEqual(lost(world, 1, FAR - (FAR - 8) % 3), ())

    def test_what_is_made_of_it(self):
        # The first ale is brought at 4; bun of it is made at 6, cod of both at 8 and of the next ale.
        self.assertEqual(lost(WORLD, 0, 4), lost_by_hand(WORLD, 0, 4, 200))
        self.assertEqual(lost(WORLD, 0, 4), (("ale", 4, 0, None), ("bun", 4, 3, None), ("cod", 4, 6, None), ("cod", 7, 3, 6), ("cod", 10, 2, 3)))
        # Later on other buns do for the cods of other ales.
        self.assertEqual(lost(WORLD, 0, 7), (("ale", 7, 0, None), ("bun", 7, 3, None), ("cod", 7, 3, None)))
        self.assertEqual(lost(WORLD, 0, 10), (("ale", 10, 0, None), ("bun", 10, 3, None), ("cod", 10, 2, None)))

    def test_things_that_come_anyhow(self):
        # What is made of it is brought, too.
        world = (1, ("ale", "bun"), (("ale", 0, 0, 0, 1), ("bun", 2, 0, 0, 1)), (("bun", (("ale", 1, 5),), "oldest", (0,), 1),))
        self.assertEqual(lost(world, 0, 9), (("ale", 9, 0, None),))
        self.assertEqual(lost(world, 1, 9), ())
        world = replaced(world, (3, 0, 4), 3)
        self.assertEqual(lost(world, 1, 9), (("bun", 7, 2, 4),))
        self.assertEqual(lost(replaced(world, (3,), ()), 1, 9), (("bun", 7, 2, None),))

    def test_things_on_their_way(self):
        # What was made ahead of the bringing is born just then, or soon behind it.
        for wait in range(1, 7):
            world = (1, ("ale", "bun"), (("ale", 0, 0, 0, 1), ("bun", wait, 0, 0, 1)), (("bun", (("ale", 0, 0),), "oldest", (0,), wait),))
            for moment in (wait, 9, FAR):
                self.assertEqual(lost(world, 1, moment), ())
            self.assertEqual(lost(world, 1, wait - 1), (("bun", -1, wait, None),))
            for age in range(wait):
                self.assertEqual(lost(replaced(world, (2, 1, 1), age), 1, 50), (("bun", 50 - age, age, wait),))

    def test_one_more_than_the_bound(self):
        # A chain: each stage a row more; ages of the parts alone tell how far it goes.
        world = (1, ("ale", "bun"), (("ale", 0, 0, 0, 1), ("bun", 20, 0, 50, 1)), (
            ("bun", (("bun", 20, 20), ("ale", 0, 11)), "youngest", (0,), 1),))
        # The first bun makes of each ale of the last twelve moments a bun; with the next bun there come the same later.
        self.assertEqual(len(lost_by_hand(world, 1, 50, 120)), LOST + 1)
        with self.assertRaises(TooMany) as caught:
            lost(world, 1, 50)
        self.assertEqual((LOST, caught.exception.bound), (12, 12))
        narrower = replaced(world, (3, 0, 1, 1, 2), 10)
        rows = (("bun", 30, 20, None), ("bun", 40, 11, 20)) + tuple(
            ("bun", origin, 51 - origin, 52 - origin) for origin in range(41, 51))
        self.assertEqual(lost(narrower, 1, 50), rows)
        self.assertEqual(len(rows), LOST)
        self.assertEqual(lost(replaced(world, (3, 0, 1, 1, 2), 0), 1, 50), (("bun", 30, 20, None), ("bun", 50, 1, 20)))


class TestAgainstTwoWalks(unittest.TestCase):
    def check(self, world, source, moment, last):
        rows = lost_by_hand(world, source, moment, last)
        if len(rows) > LOST:
            with self.assertRaises(TooMany) as caught:
                lost(world, source, moment)
            self.assertEqual(caught.exception.bound, LOST)
            return None
        told = lost(world, source, moment)
        self.assertEqual(told, rows)
        self.assertIs(type(told), tuple)
        self.assertTrue(all(origin >= moment - OLD for kind, origin, age, later in told))
        self.assertTrue(all(later is None or later > age for kind, origin, age, later in told))
        return rows

    def test_random(self):
        dice = random.Random(221)
        counts, later_ones, nevers = {}, 0, 0
        for k in range(350):
            world = dice.choice((busy_world, late_world, small_world))(dice)
            self.assertIsNone(worldfault(world))
            if not world[2]:
                continue
            source = dice.choice((-1, dice.randrange(len(world[2])))) % len(world[2])
            moment = bringing(world, source, dice.choice((0, 0, 0, 5, 20)))
            rows = self.check(world, source, moment, moment + 110)
            counts[None if rows is None else len(rows)] = counts.get(None if rows is None else len(rows), 0) + 1
            later_ones += len([row for row in rows or () if row[3] is not None])
            nevers += len([row for row in rows or () if row[3] is None])
        self.assertGreater(counts[None], 3)
        self.assertGreater(counts[0], 3)
        self.assertGreater(len(counts), 8)
        self.assertGreater(min(later_ones, nevers), 50)

    def test_each_of_the_first_moments(self):
        dice = random.Random(222)
        for k in range(12):
            world = busy_world(dice)
            for source in range(len(world[2])):
                for moment in range(26):
                    if brings(world, source, moment):
                        self.check(world, source, moment, moment + 90)

    def test_slow_worlds(self):
        for world in SLOW:
            for source in range(len(world[2])):
                for start in (0, 60, 150):
                    self.check(world, source, bringing(world, source, start), start + 200)

    def test_against_walked(self):
        dice = random.Random(223)
        for k in range(40):
            world = busy_world(dice) if k % 2 else late_world(dice)
            source = len(world[2]) - 1
            moment = bringing(world, source, dice.choice((0, 3, 9)))
            whole = walked(world, 120)
            lacking = walked(world, 120, missed=((source, moment),))
            rows = []
            for kind, here, there in zip(world[1], whole, lacking):
                ages = dict(there)
                rows += [(kind, origin, age, ages.get(origin)) for origin, age in here if ages.get(origin) != age]
            if len(rows) > LOST:
                with self.assertRaises(TooMany):
                    lost(world, source, moment)
            else:
                self.assertEqual(lost(world, source, moment), tuple(sorted(rows, key=lambda row: row[:2])))


class TestFar(unittest.TestCase):
    def moved(self, rows, moments):
        return tuple((kind, origin + moments, age, later) for kind, origin, age, later in rows)

    def told(self, world, source, moment):
        try:
            return lost(world, source, moment)
        except TooMany:
            return None

    def test_so_many_rounds_later(self):
        dice = random.Random(224)
        some = 0
        for k in range(60):
            world = busy_world(dice) if k % 2 else late_world(dice)
            for source in range(len(world[2])):
                moment = bringing(world, source, 300)
                rows = self.told(world, source, moment)
                for rounds in (1, 2, 1000, 10 ** 9, (FAR - moment) // world[0]):
                    later = self.told(world, source, moment + rounds * world[0])
                    self.assertEqual(later, None if rows is None else self.moved(rows, rounds * world[0]))
                some += rows is not None and len(rows) > 1
        self.assertGreater(some, 20)

    def test_late_sources(self):
        world = replaced(WORLD, (2, 0, 3), SINCE)
        first = bringing(world, 0, SINCE)
        early = lost(WORLD, 0, 4)
        self.assertEqual(first % 3, 1)
        self.assertEqual(lost(world, 0, first), self.moved(early, first - 4))
        # Where another begins only by then.
        world = replaced(world, (2,), world[2] + (("bun", 4, 0, 0, 1),))
        for moment in (0, 3, 30, first - 1, first - 4):
            self.assertEqual(lost(world, 1, moment)[0], ("bun", moment - 4, 4, None))

    def test_a_source_that_begins_just_behind(self):
        # What another source brings first makes up for it, or is missed.
        for since in range(40, 60):
            world = (2, ("ale", "bun", "cod"), (("ale", 0, 0, 0, 1), ("bun", 0, 1, since, 1)), (
                ("cod", (("ale", 3, 9), ("bun", 0, 9)), "oldest", (0, 1), 1),
                ("ale", (("cod", 0, 20),), "oldest", (0,), 1)))
            for moment in range(30, 60, 2):
                self.assertEqual(lost(world, 0, moment), lost_by_hand(world, 0, moment, moment + 60))
            moment = bringing(world, 1, since)
            self.assertEqual(lost(world, 1, moment), lost_by_hand(world, 1, moment, moment + 60))

    def test_at_the_bounds(self):
        dice = random.Random(225)
        for k in range(15):
            world = greatest_world(dice)
            for source in range(6):
                moment = bringing(world, source, FAR - 6)
                rows = self.told(world, source, moment)
                ahead = bringing(world, source, 2 * SINCE)
                wanted = self.told(world, source, ahead)
                self.assertEqual(rows, None if wanted is None else self.moved(wanted, moment - ahead))
                self.told(world, source, bringing(world, source, SINCE))
                self.told(world, source, bringing(world, source, world[2][source][3]))


class TestRefused(unittest.TestCase):
    def refused(self, world, source, moment):
        with self.assertRaises(NoBringing) as caught:
            lost(world, source, moment)
        self.assertEqual((caught.exception.source, caught.exception.moment), (source, moment))

    def test_another_place_and_ahead_of_since(self):
        for moment in (0, 1, 2, 3, 5, 6, 8, 9, FAR, 10 ** 9):
            if moment % 3 != 1 or moment < 4:
                self.refused(WORLD, 0, moment)
        self.refused(WORLD, 0, 1)
        self.assertEqual(lost(WORLD, 0, 4)[0], ("ale", 4, 0, None))
        world = (1, ("ale",), (("ale", 0, 0, SINCE, 1), ("ale", 3, 0, 9, 1)), ())
        self.refused(world, 0, SINCE - 1)
        self.refused(world, 0, 0)
        self.refused(world, 1, 8)
        self.assertEqual(lost(world, 1, 9), (("ale", 6, 3, None),))

    def test_just_where_it_doesnt_bring(self):
        for world in worlds_of_all_sizes()[:60]:
            for source in range(len(world[2])):
                for moment in (0, 1, 7, 30, SINCE, SINCE + 1, FAR - 5, FAR):
                    if not brings(world, source, moment):
                        self.refused(world, source, moment)


class TestAll(unittest.TestCase):
    def test_the_same_answer_and_nothing_changed(self):
        for world in (PLAIN, LARGEST, WORLD):
            kept = copy.deepcopy(world)
            moment = bringing(world, 0, world[2][0][3])
            self.assertEqual(lost(world, 0, moment), lost(world, 0, moment))
            self.assertEqual(world, kept)

    def test_what_is_lost_for_ever_where_a_source_goes(self):
        # What is lost with one bringing isn't had without the source, or not by that age.
        for moment in (4, 7, 100):
            least = gone_through(without(WORLD, "source", 0), 130)
            self.assertEqual(least, {})
            self.assertNotEqual(lost(WORLD, 0, bringing(WORLD, 0, moment)), ())


if __name__ == "__main__":
    unittest.main()
