"""[20] widened, enough and windows."""

import copy
import random
import unittest

from rightage.bounds import FAR, LATE, OLD
from rightage.errors import BadWish
from rightage.least import table
from rightage.tables import has, within
from rightage.wider import enough, widened, windows
from rightage.wishes import first_wish, wishfault
from rightage.worlds import worldfault
from tests.byhand import SLOW, gone_through, greatest_world, had, small_world, there_at
from tests.samples import HUGE, LARGEST, ODD, ODD_TUPLES, PLAIN, random_world, replaced

LAST_MOMENT = 100

# Ale is brought new at each moment; bun is made of an ale from 3 to 5 old, and is as old, one moment later;
# cod of a bun from 4 on and of an ale up to 1 old, as old as the bun.
WORLD = (
    1, ("ale", "bun", "cod"), (("ale", 0, 0, 0, 1),),
    (
        ("bun", (("ale", 3, 5),), "oldest", (0,), 1),
        ("cod", (("ale", 0, 1), ("bun", 6, 6)), "oldest", (0,), 2),
    ))


def parts_of(world):
    """(way, part) of all parts."""
    return [(way, part) for way, row in enumerate(world[3]) for part in range(len(row[1]))]


def greatests(world, way, part):
    """All greatest ages that the part may have."""
    return range(world[3][way][1][part][1], OLD + 1)


def random_wish(dice, world):
    if dice.random() < 0.5:
        return ((world[1][-1], 0, LATE),)
    rows = []
    for k in range(dice.choice((1, 1, 2, 3, 4))):
        least = dice.choice((0, 1, dice.randint(0, 30)))
        rows.append((dice.choice(world[1]), least, least + dice.choice((0, 0, 1, 3))))
    return tuple(rows)


def with_ways(dice):
    """Some world with a way."""
    while True:
        world = small_world(dice)
        if world[3]:
            return world


def tight_world(dice):
    """Some world in which it matters how wide a window is: long rounds, few sources, ways open once a round."""
    span = dice.randint(4, 6)
    kinds = ("ale", "bun", "cod")
    sources = tuple(("ale", dice.randint(0, 4), dice.randrange(span), dice.choice((0, 0, 9)), 1) for k in range(2))
    ways = []
    for k in range(3):
        parts = []
        for j in range(dice.choice((1, 1, 2))):
            least = dice.randint(0, 8)
            parts.append((kinds[max(0, k - j)], least, least + dice.randint(0, 4)))
        ways.append((kinds[min(2, k + 1)], tuple(parts), dice.choice(("oldest", "youngest")), (dice.randrange(span),),
                     dice.randint(1, 3)))
    return (span, kinds, sources, tuple(ways))


class TestWidened(unittest.TestCase):
    def test_each_greatest_age(self):
        dice = random.Random(201)
        for world in [PLAIN, LARGEST, WORLD] + [random_world(dice) for k in range(30)]:
            for way, part in parts_of(world):
                for greatest in greatests(world, way, part):
                    told = widened(world, way, part, greatest)
                    self.assertEqual(told, replaced(world, (3, way, 1, part, 2), greatest))
                    self.assertIsNone(worldfault(told))

    def test_as_it_is(self):
        for way, part in parts_of(PLAIN):
            self.assertEqual(widened(PLAIN, way, part, PLAIN[3][way][1][part][2]), PLAIN)

    def test_no_fewer_things(self):
        dice = random.Random(202)
        for k in range(15):
            world = with_ways(dice)
            for way, part in parts_of(world):
                tables = [table(widened(world, way, part, greatest)) for greatest in greatests(world, way, part)]
                for one, other in zip(tables, tables[1:]):
                    self.assertTrue(within(one, other))


class TestEnough(unittest.TestCase):
    def test_by_hand(self):
        # Bun is there at all: with ales three old.
        self.assertEqual(enough(WORLD, 0, 0, (("bun", 0, 60),)), 3)
        self.assertEqual(enough(WORLD, 0, 0, (("bun", 4, 4),)), 3)
        self.assertIsNone(enough(WORLD, 0, 0, (("bun", 3, 3),)))
        # Cod needs a bun six old, which is there anyhow.
        self.assertEqual(enough(WORLD, 0, 0, (("cod", 8, 8),)), 3)
        self.assertEqual(enough(WORLD, 1, 1, (("cod", 8, 8),)), 6)
        self.assertIsNone(enough(WORLD, 1, 1, (("cod", 7, 7),)))
        self.assertEqual(enough(WORLD, 1, 0, (("cod", 8, 8),)), 0)

    def test_between_and_at_the_ends(self):
        # The age of the ale is the age of the bun: the more greatest, the older buns come youngest of two.
        world = (1, ("ale", "bun"), (("ale", 0, 0, 0, 1),), (
            ("bun", (("ale", 2, 4), ("bun", 0, 20)), "youngest", (0,), 1),
            ("bun", (("ale", 20, 20),), "oldest", (0,), 1)))
        self.assertIsNone(enough(world, 0, 0, (("bun", 0, 2),)))
        self.assertIsNone(enough(world, 0, 0, (("bun", 3, 3),)))
        world = (2, ("ale", "bun"), (("ale", 1, 0, 0, 1),), (("bun", (("ale", 2, 2),), "oldest", (0,), 1),))
        # Ale has odd ages at even moments only.
        self.assertEqual(enough(world, 0, 0, (("bun", 0, 60),)), 3)
        self.assertEqual(enough(world, 0, 0, (("bun", 4, 4),)), 3)
        self.assertIsNone(enough(world, 0, 0, (("bun", 2, 3),)))
        world = (6, ("ale", "bun"), (("ale", 2, 0, 0, 1),), (("bun", (("ale", 3, 3),), "oldest", (0,), 1),))
        self.assertEqual(enough(world, 0, 0, (("bun", 0, 60),)), 8)
        for age, wanted in ((2, 2), (3, 8), (8, 8), (9, 14), (14, 14), (15, 20), (20, 20)):
            self.assertEqual(enough(replaced(world, (3, 0, 1, 0, 1), age), 0, 0, (("bun", 0, 60),)), wanted)
        self.assertEqual(enough(replaced(world, (2, 0, 1), 0), 0, 0, (("bun", 0, 60),)), 6)
        # The part's least, though no wish needs the way.
        self.assertEqual(enough(world, 0, 0, (("ale", 2, 2), ("ale", 3, 3), ("ale", 2, 60), ("ale", 60, 60))[:1]), 3)
        # Never: each comes at a place of its own.
        self.assertIsNone(enough(world, 0, 0, (("ale", 2, 2), ("ale", 3, 3))))
        self.assertIsNone(enough((6, ("ale", "bun"), (("ale", 1, 0, 0, 1),), (("bun", (("ale", 20, 20),), "oldest", (0,), 1),)),
                                 0, 0, (("bun", 0, 60),)))

    def test_each_greatest_age_by_itself(self):
        dice = random.Random(203)
        seen = set()
        for k in range(60):
            world = with_ways(dice) if k % 2 else tight_world(dice)
            way, part = dice.choice(parts_of(world))
            for turn in range(3):
                wish = random_wish(dice, world)
                self.assertIsNone(wishfault(world, wish))
                does = [greatest for greatest in greatests(world, way, part)
                        if first_wish(widened(world, way, part, greatest), wish) is not None]
                wanted = does[0] if does else None
                self.assertEqual(enough(world, way, part, wish), wanted)
                # Each wider one does, too.
                self.assertEqual(does, list(range(wanted, OLD + 1)) if does else [])
                seen.add(None if wanted is None else wanted - world[3][way][1][part][1])
        self.assertGreater(len(seen), 5)

    def test_against_going_through(self):
        dice = random.Random(204)
        for k in range(12):
            world = with_ways(dice) if k % 2 else tight_world(dice)
            way, part = dice.choice(parts_of(world))
            walks = {greatest: gone_through(widened(world, way, part, greatest), LAST_MOMENT)
                     for greatest in greatests(world, way, part)}
            for turn in range(4):
                wish = random_wish(dice, world)
                does = [greatest for greatest in walks if any(
                    all(there_at(walks[greatest], *item, moment) for item in wish) for moment in range(LAST_MOMENT + 1))]
                self.assertEqual(enough(world, way, part, wish), min(does, default=None))

    def test_bad_wish(self):
        def refused(wish, item, word):
            with self.assertRaises(BadWish) as caught:
                enough(WORLD, 1, 1, wish)
            self.assertEqual((caught.exception.item, caught.exception.word), (item, word))
        good = ("ale", 0, 60)
        for wish in ODD + ((), (good,) * 5, [good], list(good)):
            refused(wish, -1, "wish")
        for wish in (good, (good, good[:2]), (good, None), (good, list(good)), (good, ())):
            refused(wish, 0 if wish == good else 1, "item")
        for kind in ("dip", "", None, 0, ["ale"], ("ale",), True):
            refused((good, good, (kind, -1, -1)), 2, "kind")
        for least in (-1, LATE + 1, True, None, "0", HUGE):
            refused((good, good, good, ("cod", least, -1)), 3, "least")
        for greatest in (1, LATE + 1, True, None, "0", HUGE):
            refused((("cod", 2, greatest), None), 0, "greatest")
        for odd in ODD_TUPLES[1:5]:
            refused(odd, 0, "item")

    def test_at_the_bounds(self):
        dice = random.Random(205)
        for k in range(6):
            world = greatest_world(dice)
            for way in range(8):
                wish = tuple((kind, 0, LATE) for kind in world[1])
                self.assertEqual(enough(world, way, 2, wish), min(
                    [greatest for greatest in greatests(world, way, 2)
                     if first_wish(widened(world, way, 2, greatest), wish) is not None], default=None))


class TestWindows(unittest.TestCase):
    def told(self, world, way, part, seen, unseen):
        """What windows tells, held against each greatest age by itself."""
        lets = []
        for greatest in greatests(world, way, part):
            wider = widened(world, way, part, greatest)
            least = table(wider)
            if all(has(wider, least, *row) for row in seen) and not any(has(wider, least, *row) for row in unseen):
                lets.append(greatest)
        answer = windows(world, way, part, seen, unseen)
        if not lets:
            self.assertIsNone(answer)
        else:
            self.assertEqual(answer, (lets[0], lets[-1]))
            self.assertIs(type(answer), tuple)
            self.assertEqual(lets, list(range(lets[0], lets[-1] + 1)))
        return answer

    def test_nothing_seen_and_nothing_unseen(self):
        for world in (PLAIN, LARGEST, WORLD) + SLOW:
            for way, part in parts_of(world):
                self.assertEqual(self.told(world, way, part, (), ()), (world[3][way][1][part][1], OLD))

    def test_by_hand(self):
        # Bun of an ale that began at 0 is there by 4; where the greatest is 4, one can wait to be made by 5 no sooner.
        self.assertEqual(self.told(WORLD, 0, 0, (("bun", 0, 4),), ()), (3, OLD))
        self.assertEqual(self.told(WORLD, 0, 0, (), (("bun", 0, 3),)), (3, OLD))
        self.assertIsNone(self.told(WORLD, 0, 0, (("bun", 0, 3),), ()))
        self.assertIsNone(self.told(WORLD, 0, 0, (), (("bun", 0, 4),)))
        world = (6, ("ale", "bun"), (("ale", 2, 0, 0, 1),), (("bun", (("ale", 0, 3),), "oldest", (0, 3), 1),))
        # The ale that began at -2 is 2 old at 0, 5 old at 3, 8 old at 6 and so on.
        late = replaced(world, (3, 0, 3), (3,))
        for age, wanted in ((5, None), (6, (5, OLD)), (11, (5, OLD)), (12, (5, OLD))):
            self.assertEqual(self.told(late, 0, 0, (("bun", -2, age),), ()), wanted)
        self.assertEqual(self.told(late, 0, 0, (), (("bun", -2, 5),)), (0, OLD))
        self.assertEqual(self.told(late, 0, 0, (), (("bun", -2, 6),)), (0, 4))
        self.assertEqual(self.told(late, 0, 0, (("ale", 4, 2),), (("bun", FAR - 1, FAR),)), (0, OLD))
        self.assertEqual(self.told(late, 0, 0, (("ale", 4, 2),), (("bun", FAR - 1, FAR), ("bun", 4, 60))), (0, 4))
        self.assertEqual(FAR - 4, FAR // 6 * 6)
        self.assertEqual(self.told(late, 0, 0, (("bun", FAR, FAR),), (("bun", FAR, 5),)), (5, OLD))
        self.assertIsNone(self.told(late, 0, 0, (("bun", 4, 60),), (("bun", -2, 6),)))
        self.assertIsNone(self.told(late, 0, 0, (("bun", 4, 60),), (("bun", 10, 60),)))
        self.assertIsNone(self.told(late, 0, 0, (("ale", 5, FAR),), ()))

    def test_both(self):
        # Two ales of unlike beginnings; the wider the window, the more of them does.
        world = (6, ("ale", "bun"), (("ale", 2, 0, 0, 1), ("ale", 3, 4, 0, 1), ("ale", 5, 3, 0, 1)), (
            ("bun", (("ale", 1, 1),), "oldest", (5,), 2),))
        # At 5 they are 7, 4 and 7 old; what began at 1, -2 and -2.
        self.assertEqual(self.told(world, 0, 0, (("bun", 1, 6),), ()), (4, OLD))
        self.assertEqual(self.told(world, 0, 0, (), (("bun", -2, 9),)), (1, 6))
        self.assertEqual(self.told(world, 0, 0, (("bun", 1, 6),), (("bun", -2, 9),)), (4, 6))
        self.assertEqual(self.told(world, 0, 0, (("bun", 1, 6), ("bun", -2, 9)), (("bun", 1, 5),)), (7, OLD))
        self.assertIsNone(self.told(world, 0, 0, (("bun", -2, 9),), (("bun", 1, 6),)))
        self.assertEqual(self.told(world, 0, 0, (("bun", 1, 6),) * 9, (("bun", -2, 9), ("bun", -2, 8), ("bun", 4, 9))), (4, 6))

    def test_random(self):
        dice = random.Random(206)
        kinds = set()
        for k in range(80):
            world = with_ways(dice) if k % 2 else tight_world(dice)
            way, part = dice.choice(parts_of(world))
            rows = []
            for greatest in (world[3][way][1][part][1], OLD):
                born = gone_through(widened(world, way, part, greatest), 40)
                rows += [(kind, origin, born[kind, origin] - origin) for kind, origin in born]
            rows = dice.sample(sorted(rows), min(6, len(rows)))
            rows += [(dice.choice(world[1]), dice.randint(-9, 40), dice.randint(0, 30))]
            cut = dice.randint(0, len(rows))
            for seen, unseen in ((rows[:cut], rows[cut:]), (rows[:-1], []), ([], rows[-1:]), (rows[:1], rows[-1:])):
                answer = self.told(world, way, part, tuple(seen), tuple(unseen))
                least = world[3][way][1][part][1]
                kinds.add(None if answer is None else (answer[0] > least, answer[1] < OLD))
        self.assertEqual(len(kinds), 5)

    def test_against_going_through(self):
        dice = random.Random(207)
        for k in range(10):
            world = with_ways(dice) if k % 2 else tight_world(dice)
            way, part = dice.choice(parts_of(world))
            walks = {greatest: gone_through(widened(world, way, part, greatest), 70)
                     for greatest in greatests(world, way, part)}
            for turn in range(10):
                rows = [(dice.choice(world[1]), dice.randint(-9, 30), dice.randint(0, 40)) for row in range(2)]
                lets = [greatest for greatest, born in walks.items()
                        if had(born, *rows[0]) and not had(born, *rows[1])]
                self.assertEqual(windows(world, way, part, tuple(rows[:1]), tuple(rows[1:])),
                                 (min(lets), max(lets)) if lets else None)


class TestAll(unittest.TestCase):
    def test_nothing_is_changed(self):
        dice = random.Random(208)
        for k in range(8):
            world = with_ways(dice)
            way, part = dice.choice(parts_of(world))
            wish = random_wish(dice, world)
            rows = ((world[1][0], 3, 9), (world[1][-1], FAR, FAR), (world[1][0], -FAR, 0))
            kept = copy.deepcopy((world, wish, rows))
            first = (widened(world, way, part, OLD), enough(world, way, part, wish), windows(world, way, part, rows, rows[1:]))
            self.assertEqual(first, (
                widened(world, way, part, OLD), enough(world, way, part, wish), windows(world, way, part, rows, rows[1:])))
            self.assertEqual((world, wish, rows), kept)


if __name__ == "__main__":
    unittest.main()
