"""[27] Hall and its deeds."""

import random
import unittest

from rightage.bounds import DEEDS, OLD, SOURCES, WAYS
from rightage.errors import BadWorld, Busy, Long, NoPart, NoSource, NothingBack, NoWay
from rightage.halls import Hall
from rightage.worlds import worldfault
from tests.hallsamples import DEEDS_DONE, NO_NUMBERS, SOURCE, WAY, WORLD, do, full_hall, state, world_behind
from tests.samples import LARGEST, ODD, ODD_TUPLES, PLAIN, SMALLEST, found, paths, replaced, worlds_of_all_sizes


class HallCase(unittest.TestCase):
    def refused(self, hall, deed, error, **fields):
        """The deed is refused so, and all is as it was."""
        ahead = state(hall)
        with self.assertRaises(error) as caught:
            do(hall, deed)
        self.assertIs(type(caught.exception), error)
        for name, field in fields.items():
            self.assertEqual(getattr(caught.exception, name), field)
            self.assertIs(type(getattr(caught.exception, name)), type(field))
        self.assertEqual(state(hall), ahead)

    def no_world(self, hall, deed, world):
        """The deed is refused because this is no world."""
        path, word = worldfault(world)
        self.refused(hall, deed, BadWorld, path=path, word=word)


class TestMade(unittest.TestCase):
    def test_of_worlds(self):
        for world in worlds_of_all_sizes():
            hall = Hall(world)
            self.assertEqual(hall.world(), world)
            self.assertEqual(hall.deeds(), ())
            self.assertEqual(len(hall), 0)

    def test_of_what_is_no_world(self):
        things = list(ODD) + list(ODD_TUPLES)
        for path in paths(PLAIN):
            things += [replaced(PLAIN, path, odd) for odd in (None, True, -1, "Bud", [], (), {"a": 1})]
            if isinstance(found(PLAIN, path), tuple):
                things.append(replaced(PLAIN, path, list(found(PLAIN, path))))
        refused = 0
        for thing in things:
            fault = worldfault(thing)
            if fault is None:
                self.assertEqual(Hall(thing).world(), thing)
                continue
            refused += 1
            with self.assertRaises(BadWorld) as caught:
                Hall(thing)
            self.assertEqual((caught.exception.path, caught.exception.word), fault)
        self.assertGreater(refused, 200)


class TestDone(HallCase):
    def test_each(self):
        for deed in DEEDS_DONE:
            hall = Hall(world_behind(world_behind(WORLD, DEEDS_DONE[0]), DEEDS_DONE[1]))
            wanted = world_behind(hall.world(), deed)
            self.assertIsNone(worldfault(wanted))
            self.assertIsNone(do(hall, deed))
            self.assertEqual(hall.world(), wanted)
            self.assertEqual(hall.deeds(), (deed,))
            self.assertEqual(len(hall), 1)
            self.assertIsNone(hall.back())
            self.assertEqual(len(hall), 0)

    def test_one_after_the_other_and_back(self):
        hall = Hall(WORLD)
        worlds = [WORLD]
        for k, deed in enumerate(DEEDS_DONE):
            self.assertIsNone(do(hall, deed))
            worlds.append(world_behind(worlds[-1], deed))
            self.assertEqual(hall.world(), worlds[-1])
            self.assertEqual(hall.deeds(), DEEDS_DONE[:k + 1])
        for k in range(len(DEEDS_DONE), 0, -1):
            self.assertEqual(hall.world(), worlds[k])
            self.assertEqual(len(hall), k)
            self.assertIsNone(hall.back())
            self.assertEqual(hall.deeds(), DEEDS_DONE[:k - 1])
            self.assertEqual(hall.world(), worlds[k - 1])
        with self.assertRaises(NothingBack):
            hall.back()

    def test_by_hand(self):
        hall = Hall(SMALLEST)
        hall.bring(("a", 2, 0, 7, 3))
        hall.bring(("a", 0, 0, 0, 1))
        self.assertEqual(hall.world(), (1, ("a",), (("a", 2, 0, 7, 3), ("a", 0, 0, 0, 1)), ()))
        hall.way(("a", (("a", 0, 1), ("a", 3, 9)), "oldest", (), 6))
        hall.hours(0, (0,))
        hall.window(0, 1, 4, 4)
        self.assertEqual(hall.world()[3], (("a", (("a", 0, 1), ("a", 4, 4)), "oldest", (0,), 6),))
        hall.stop(0)
        self.assertEqual(hall.world()[2], (("a", 0, 0, 0, 1),))
        hall.shut(0)
        self.assertEqual(hall.world(), (1, ("a",), (("a", 0, 0, 0, 1),), ()))
        self.assertEqual(hall.deeds(), (
            ("bring", ("a", 2, 0, 7, 3)), ("bring", ("a", 0, 0, 0, 1)),
            ("way", ("a", (("a", 0, 1), ("a", 3, 9)), "oldest", (), 6)), ("hours", 0, (0,)), ("window", 0, 1, 4, 4),
            ("stop", 0), ("shut", 0)))

    def test_each_source_and_each_way(self):
        for number in range(2):
            hall = Hall(WORLD)
            hall.stop(number)
            self.assertEqual(hall.world()[2], (WORLD[2][1 - number],))
        for number in range(3):
            hall = Hall(WORLD)
            hall.shut(number)
            self.assertEqual(hall.world(), world_behind(WORLD, ("shut", number)))
            for hours in ((), (0,), (1,), (0, 1)):
                hall = Hall(WORLD)
                hall.hours(number, hours)
                self.assertEqual(hall.world(), replaced(WORLD, (3, number, 3), hours))
            for part in range(len(WORLD[3][number][1])):
                for ages in ((0, 0), (0, OLD), (OLD, OLD), (7, 8)):
                    hall = Hall(WORLD)
                    hall.window(number, part, *ages)
                    self.assertEqual(hall.world(), world_behind(WORLD, ("window", number, part) + ages))

    def test_a_deed_that_changes_nothing_stands(self):
        hall = Hall(WORLD)
        hall.hours(0, (0, 1))
        hall.window(1, 0, 2, 5)
        self.assertEqual(hall.world(), WORLD)
        self.assertEqual(hall.deeds(), (("hours", 0, (0, 1)), ("window", 1, 0, 2, 5)))
        self.assertEqual(hall.changed(), ())

    def test_to_the_bounds(self):
        hall = Hall(SMALLEST)
        for k in range(SOURCES):
            hall.bring(("a", k, 0, 0, 1))
        for k in range(WAYS):
            hall.way(("a", (("a", k, 20),), "oldest", (0,), 1))
        self.assertEqual((len(hall.world()[2]), len(hall.world()[3])), (SOURCES, WAYS))
        self.no_world(hall, ("bring", ("a", 0, 0, 0, 1)), replaced(hall.world(), (2,), (1,) * 7))
        self.refused(hall, ("bring", None), BadWorld, path=(2,), word="sources")
        self.refused(hall, ("way", hall.world()[3][0]), BadWorld, path=(3,), word="ways")
        self.refused(hall, ("way", []), BadWorld, path=(3,), word="ways")
        hall.stop(5)
        hall.bring(("a", 0, 0, 0, 1))
        hall.shut(7)
        hall.way(("a", (("a", 0, 0),) * 3, "youngest", (), 6))

    def test_random(self):
        dice = random.Random(271)
        for world in (WORLD, PLAIN, LARGEST, SMALLEST):
            hall, worlds = Hall(world), [world]
            for k in range(300):
                deed = random_deed(dice, worlds[-1])
                turn = dice.random()
                if turn < 0.3 and len(worlds) > 1:
                    hall.back()
                    worlds.pop()
                elif deed is not None and worldfault(world_behind(worlds[-1], deed)) is None and len(worlds) <= DEEDS:
                    self.assertIsNone(do(hall, deed))
                    worlds.append(world_behind(worlds[-1], deed))
                self.assertEqual(hall.world(), worlds[-1])
                self.assertEqual(len(hall), len(worlds) - 1)
            while len(worlds) > 1:
                hall.back()
                worlds.pop()
                self.assertEqual(hall.world(), worlds[-1])
            self.assertEqual(hall, Hall(world))


def random_deed(dice, world):
    """Some deed whose numbers are there, or None."""
    span, kinds, sources, ways = world
    word = dice.choice(("bring", "way", "stop", "shut", "hours", "window"))
    if word == "bring":
        return (word, (dice.choice(kinds), dice.randint(0, 20), dice.randrange(span), 0, dice.randint(1, 10)))
    if word == "way":
        parts = tuple((dice.choice(kinds), 0, dice.randint(0, 5)) for k in range(dice.randint(1, 3)))
        return (word, (dice.choice(kinds), parts, "oldest", (dice.randrange(span),), dice.randint(1, 2)))
    if word == "stop":
        return (word, dice.randrange(len(sources))) if sources else None
    if not ways:
        return None
    number = dice.randrange(len(ways))
    if word == "shut":
        return (word, number)
    if word == "hours":
        return (word, number, tuple(dice.sample(range(span), dice.randint(0, min(2, span)))))
    return (word, number, dice.randrange(len(ways[number][1])), dice.randint(0, 4), dice.randint(0, 9))


class TestRefused(HallCase):
    def test_no_source(self):
        hall = Hall(WORLD)
        for number in NO_NUMBERS + (2, 3, 6):
            self.refused(hall, ("stop", number), NoSource, number=number)
        self.refused(Hall(SMALLEST), ("stop", 0), NoSource, number=0)
        hall.stop(1)
        self.refused(hall, ("stop", 1), NoSource, number=1)

    def test_no_way(self):
        hall = Hall(WORLD)
        for number in NO_NUMBERS + (3, 4, 8):
            for hours in ((0,), (7,), None):
                self.refused(hall, ("hours", number, hours), NoWay, number=number)
            self.refused(hall, ("shut", number), NoWay, number=number)
            for part, least, greatest in ((0, 0, 1), (9, 0, 1), (None, None, None), (0, 2, 1)):
                self.refused(hall, ("window", number, part, least, greatest), NoWay, number=number)
        self.refused(Hall(SMALLEST), ("shut", 0), NoWay, number=0)
        hall.shut(0)
        self.refused(hall, ("shut", 2), NoWay, number=2)

    def test_no_part(self):
        hall = Hall(WORLD)
        for number, many in enumerate((2, 1, 2)):
            for part in NO_NUMBERS + (many, many + 1):
                for least, greatest in ((0, 1), (2, 1), (None, [])):
                    self.refused(hall, ("window", number, part, least, greatest), NoPart, part=part)

    def test_hours_that_make_no_world(self):
        hall = Hall(WORLD)
        for number in range(3):
            for hours in (None, True, 0, "0", [0], [], {}, (2,), (-1,), (1, 0), (0, 0), (True,), (False,), (0, 1, 2), ("0",), ((0,),)):
                self.refused(hall, ("hours", number, hours), BadWorld, path=(3, number, 3), word="hours")
                self.assertEqual(worldfault(replaced(WORLD, (3, number, 3), hours)), ((3, number, 3), "hours"))

    def test_windows_that_make_no_world(self):
        hall = Hall(WORLD)
        for number, part in ((0, 0), (0, 1), (1, 0), (2, 1)):
            for least in (None, True, False, "0", [0], -1, OLD + 1, (0,)):
                for greatest in (5, None):
                    self.refused(hall, ("window", number, part, least, greatest), BadWorld,
                                 path=(3, number, 1, part, 1), word="least")
            for greatest in (None, True, "5", [5], 2, 0, -1, OLD + 1):
                self.refused(hall, ("window", number, part, 3, greatest), BadWorld,
                             path=(3, number, 1, part, 2), word="greatest")

    def test_sources_that_are_none(self):
        hall = Hall(WORLD)
        for thing in ODD + ODD_TUPLES + (list(SOURCE), SOURCE + (1,), SOURCE[:4]):
            self.refused(hall, ("bring", thing), BadWorld, path=(2, 2), word="source")
        for at, word, odds in (
                (0, "kind", ("dip", "", None, 0, ["ale"])), (1, "age", (-1, 21, True, None, "0")), (2, "place", (-1, 2, True, None)),
                (3, "since", (-1, 10 ** 6 + 1, False, [])), (4, "many", (0, 10, True, None))):
            for odd in odds:
                self.refused(hall, ("bring", replaced(SOURCE, (at,), odd)), BadWorld, path=(2, 2, at), word=word)

    def test_ways_that_are_none(self):
        hall = Hall(WORLD)
        for thing in ODD + ODD_TUPLES + (list(WAY), WAY + (1,), WAY[:4]):
            self.refused(hall, ("way", thing), BadWorld, path=(3, 3), word="way")
        for path in paths(WAY)[1:]:
            for odd in (None, True, -1, HALF, [], {}, "Ale", 99):
                self.no_world(hall, ("way", replaced(WAY, path, odd)), replaced(WORLD, (3,), WORLD[3] + (replaced(WAY, path, odd),)))

    def test_long(self):
        hall = full_hall()
        self.assertEqual(len(hall), DEEDS)
        # Ahead of all but Busy.
        for deed in DEEDS_DONE + (
                ("stop", 7), ("stop", None), ("shut", 9), ("hours", 9, None), ("hours", 0, None), ("window", 0, 9, 0, 0),
                ("window", 0, 0, 2, 1), ("bring", None), ("way", None)):
            self.refused(hall, deed, Long)
        hall.back()
        self.assertIsNone(hall.bring(SOURCE))
        self.refused(hall, ("bring", SOURCE), Long)
        for k in range(DEEDS):
            hall.back()
        self.assertEqual(hall, Hall(WORLD))
        with self.assertRaises(NothingBack):
            hall.back()

    def test_nothing_back(self):
        hall = Hall(WORLD)
        for turn in range(2):
            ahead = state(hall)
            with self.assertRaises(NothingBack):
                hall.back()
            self.assertEqual(state(hall), ahead)
        hall.stop(0)
        hall.back()
        with self.assertRaises(NothingBack):
            hall.back()

    def test_busy_ahead_of_all(self):
        def tell(hall):
            for deed in DEEDS_DONE + (
                    ("stop", 7), ("shut", None), ("hours", 9, None), ("window", 0, 9, 0, 0), ("bring", None), ("way", None)):
                self.refused(hall, deed, Busy)
            for deeds in ((), None, [("stop", 0)], [None], (None,) * 41, 7):
                ahead = state(hall)
                with self.assertRaises(Busy):
                    hall.tried(deeds)
                self.assertEqual(state(hall), ahead)
            with self.assertRaises(Busy):
                hall.back()
            heard.append(len(hall))
        heard = []
        Hall(WORLD).tried([("stop", 0)], tell=tell)
        hall = full_hall()
        hall.back()
        hall.tried([("stop", 0)], tell=tell)
        self.assertEqual(heard, [1, DEEDS])

    def test_what_was_refused_can_be_done_rightly(self):
        hall = Hall(WORLD)
        self.refused(hall, ("hours", 0, [1]), BadWorld)
        hall.hours(0, (1,))
        self.assertEqual(hall.world()[3][0][3], (1,))
        self.assertEqual(len(hall), 1)


HALF = "x" * 400


class TestKept(unittest.TestCase):
    def test_what_was_handed_in_is_changed_afterwards(self):
        parts = [("bun", 4, 5)]
        source, hours = list(SOURCE), [0]
        hall = Hall(WORLD)
        hall.bring(tuple(source))
        hall.way(("ale", tuple(parts), "oldest", tuple(hours), 1))
        ahead = state(hall)
        source[1] = 99
        parts.append(None)
        hours.append(7)
        self.assertEqual(state(hall), ahead)

    def test_a_list_that_was_refused(self):
        hall = Hall(WORLD)
        hours = [0]
        with self.assertRaises(BadWorld):
            hall.hours(0, hours)
        hours.append(1)
        self.assertEqual(hours, [0, 1])
        number = [0]
        with self.assertRaises(NoSource) as caught:
            hall.stop(number)
        self.assertIs(caught.exception.number, number)
        self.assertEqual(number, [0])

    def test_told_deeds_are_tuples(self):
        hall = Hall(WORLD)
        for deed in DEEDS_DONE:
            do(hall, deed)
        self.assertIs(type(hall.deeds()), tuple)
        self.assertEqual({type(deed) for deed in hall.deeds()}, {tuple})


if __name__ == "__main__":
    unittest.main()
