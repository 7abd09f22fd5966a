"""[1] and [2] over the whole: what is let by is so, and just one of two papers is."""

import random
import unittest

from rightage.beside import without
from rightage.bounds import FAR, READY
from rightage.desks import Desk
from rightage.halls import Hall
from rightage.leaks import is_shut, leak
from rightage.least import last_age, ready, table
from rightage.losses import lost
from rightage.mosts import most
from rightage.papers import shows, things
from rightage.prices import prices_hold
from rightage.steady import steady_holds
from rightage.tables import both, either, has, within
from rightage.texts import read_world, world_text
from rightage.unlike import parted
from rightage.verdicts import verdict, verdict_holds
from rightage.wishes import ages_there
from tests.byhand import SLOW, gone_through, had, shut_by, small_world
from tests.byprice import narrow_world, random_want
from tests.hallsamples import asked, do
from tests.samples import PLAIN, SMALLEST, random_table, random_world
from tests.test_halls import random_deed
from tests.test_paper_things import random_paper


def some_worlds(seed, many):
    dice = random.Random(seed)
    return [PLAIN, SMALLEST] + list(SLOW) + [small_world(dice) for k in range(many)]


def some_things(dice, world, many):
    """(kind, origin, age): near the beginning, and far."""
    for k in range(many):
        origin = dice.choice((dice.randint(-20, 60), dice.randint(-20, 60), dice.randint(10 ** 6, FAR), FAR, -FAR))
        yield (dice.choice(world[1]), origin, dice.choice((dice.randint(0, READY), dice.randint(0, READY), 60, FAR)))


class TestOneOfTwo(unittest.TestCase):
    def test_what_is_told_holds_and_the_other_doesnt(self):
        dice = random.Random(21)
        counts = {"rows": 0, "never": 0}
        for world in some_worlds(22, 20):
            least = table(world)
            shut = [least] + [shut_by(world, leak, random_table(dice, world)) for k in range(2)]
            shut += [either(world, shut[1], shut[2]), both(world, shut[1], shut[2])]
            papers = []
            for thing in some_things(dice, world, 20):
                told = verdict(world, *thing)
                counts[told[0]] += 1
                self.assertIs(verdict_holds(world, *thing, told), True)
                papers += [told[1]] if told[0] == "rows" else []
                barred = [proof for proof in shut if verdict_holds(world, *thing, ("never", proof))]
                showing = [paper for paper in papers if verdict_holds(world, *thing, ("rows", paper))]
                self.assertEqual(bool(barred), told[0] == "never")
                self.assertEqual(bool(showing), told[0] == "rows")
        self.assertGreater(min(counts.values()), 80)

    def test_whoever_made_it(self):
        # Papers of chance lead only to what every shut table has.
        dice = random.Random(23)
        rows = 0
        for world in some_worlds(24, 20):
            if not world[2]:
                continue
            least = table(world)
            wider = shut_by(world, leak, random_table(dice, world))
            self.assertTrue(is_shut(world, wider))
            self.assertTrue(within(least, wider))
            paper = random_paper(dice, world, 12)
            for number, (kind, origin, born) in enumerate(things(world, paper)):
                self.assertTrue(has(world, least, kind, origin, born - origin))
                self.assertTrue(has(world, wider, kind, origin, born - origin))
                self.assertTrue(shows(world, kind, origin, born - origin, paper[:number + 1]))
                self.assertFalse(verdict_holds(world, kind, origin, born - origin, ("never", wider)))
                self.assertLessEqual(ready(world, kind, origin), born - origin)
                rows += 1
        self.assertGreater(rows, 200)

    def test_a_round_later_too(self):
        dice = random.Random(25)
        for world in some_worlds(26, 40):
            least = table(world)
            for kind, origin, age in some_things(dice, world, 30):
                if has(world, least, kind, origin, age):
                    self.assertTrue(has(world, least, kind, origin + world[0], age))
                    self.assertTrue(has(world, least, kind, origin, age + 1))

    def test_ages_of_readiness_fall_to_a_last_one(self):
        for world in some_worlds(27, 20):
            for kind in world[1]:
                for place in range(world[0]):
                    ages = [ready(world, kind, place + world[0] * k) for k in (-4, -1, 0, 1, 2, 3, 5, 9, 17, 50)]
                    last = last_age(world, kind, place)
                    numbers = [age for age in ages if age is not None]
                    self.assertEqual(numbers, sorted(numbers, reverse=True))
                    self.assertEqual(ages, [None] * (len(ages) - len(numbers)) + numbers)
                    far = ready(world, kind, FAR - (FAR - place) % world[0])
                    self.assertEqual(far, None if last is None else last[0])


class TestUsedUp(unittest.TestCase):
    def test_both_hold_and_nought_just_where_it_never_comes(self):
        dice = random.Random(28)
        counts = {True: 0, False: 0}
        for k in range(150):
            world = narrow_world(dice)
            want = random_want(dice, world)
            number, steady, prices = most(world, want)
            self.assertIs(steady_holds(world, want, number, steady), True)
            self.assertIs(prices_hold(world, want, number, prices), True)
            comes = any(want[1] <= age <= want[2] for place in range(world[0]) for age in ages_there(world, want[0], place))
            self.assertEqual(number == (0, 1), not comes)
            counts[comes] += 1
            # More isn't let by, whoever tells it.
            above, below = number
            self.assertIs(steady_holds(world, want, (above + 1, below), steady), False)
            self.assertIs(prices_hold(world, want, (above + 1, below), prices), False)
        self.assertGreater(min(counts.values()), 20)


class TestDeedsTakenBack(unittest.TestCase):
    def test_all_is_as_it_was(self):
        dice = random.Random(29)
        for k in range(12):
            world = narrow_world(dice)
            hall = Hall(world)
            aheads = [asked(hall)]
            for turn in range(12):
                deed = random_deed(dice, hall.world())
                # What makes the world no more narrow isn't asked.
                if deed is not None and deed[0] not in ("bring", "way", "window"):
                    do_if_let(hall, deed)
                if len(hall) == len(aheads):
                    aheads.append(asked(hall))
            while len(hall):
                aheads.pop()
                hall.back()
                self.assertEqual(asked(hall), aheads[-1])

    def test_by_a_desk(self):
        dice = random.Random(30)
        lines = ("stop 0", "shut 0", "hours 0 -", "hours 0 0", "window 0 0 0 1", "bring ale 0 0 0 1", "way ale oldest 0 1 ale 0 1", "stop 1", "back")
        for k in range(30):
            hall = Hall(narrow_world(dice))
            desk = Desk(hall)
            worlds = [hall.world()]
            for turn in range(20):
                line = dice.choice(lines)
                if desk.say(line) == "done":
                    if line == "back":
                        worlds.pop()
                    else:
                        worlds.append(hall.world())
                self.assertEqual(hall.world(), worlds[-1])
            while desk.say("back") == "done":
                worlds.pop()
                self.assertEqual(hall.world(), worlds[-1])
            self.assertEqual(len(worlds), 1)


def do_if_let(hall, deed):
    try:
        do(hall, deed)
    except ValueError:
        pass


class TestTogether(unittest.TestCase):
    def test_ages_that_nobody_brought(self):
        # [1]: bun is brought five old; with a new ale it is new again, and that one with the next, however far.
        world = (1, ("ale", "bun"), (("ale", 0, 0, 0, 1), ("bun", 5, 0, 30, 1)), (("bun", (("bun", 3, 5), ("ale", 0, 0)), "youngest", (0,), 1),))
        self.assertEqual([ready(world, "bun", origin) for origin in (24, 25, 29, 30, 31, FAR)], [None, 5, 5, 1, 1, 1])
        world = without(world, "source", 1)
        self.assertEqual([ready(world, "bun", origin) for origin in (25, 30, FAR)], [None] * 3)
        # What is too young waits and spoils its partner.
        world = (1, ("ale", "bun"), (("ale", 0, 0, 0, 1), ("bun", 0, 0, 30, 1)), (("bun", (("bun", 3, 5), ("ale", 0, 0)), "oldest", (0,), 1),))
        self.assertEqual(table(world), table(without(world, "way", 0)))

    def test_read_and_asked(self):
        dice = random.Random(31)
        for k in range(30):
            world = random_world(dice)
            again = read_world(world_text(world))
            self.assertEqual(Hall(again), Hall(world))
            self.assertIsNone(parted(again, world))

    def test_what_is_lost_was_had(self):
        dice = random.Random(32)
        for k in range(40):
            world = small_world(dice)
            for source in range(len(world[2])):
                age, place, since = world[2][source][1:4]
                moment = since + (place - since) % world[0]
                rows = lost(world, source, moment)
                bare = table(without(world, "source", source))
                born = gone_through(world, moment + 40)
                for kind, origin, least, later in rows:
                    self.assertEqual(ready(world, kind, origin), least)
                    if origin + least <= moment + 40:
                        self.assertTrue(had(born, kind, origin, least))
                    self.assertFalse(has(without(world, "source", source), bare, kind, origin, least))


if __name__ == "__main__":
    unittest.main()
