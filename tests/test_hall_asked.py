"""[29] what a hall is asked, and [2]: deeds taken back leave all as it was."""

import random
import unittest

from rightage.bounds import FAR
from rightage.errors import BadWish, NoDeed, NoKind, NotNarrow
from rightage.halls import Hall
from rightage.least import ready, table
from rightage.mosts import most
from rightage.unlike import lacks
from rightage.verdicts import verdict, verdict_holds
from rightage.wishes import first_wish
from rightage.worlds import worldfault
from tests.byhand import SLOW
from tests.hallsamples import DEEDS_DONE, SOURCE, WAY, WORLD, asked, asked_by_functions, do, full_hall, state, world_behind
from tests.samples import HUGE, LARGEST, ODD, ODD_TUPLES, PLAIN, SMALLEST


class TestQuestions(unittest.TestCase):
    def test_behind_each_deed_and_each_back(self):
        hall, worlds = Hall(WORLD), [WORLD]
        self.assertEqual(asked(hall), asked_by_functions(WORLD, None, (), ()))
        for k, deed in enumerate(DEEDS_DONE):
            do(hall, deed)
            worlds.append(world_behind(worlds[-1], deed))
            self.assertEqual(asked(hall), asked_by_functions(worlds[-1], worlds[-2], DEEDS_DONE[:k + 1], ()))
        for k in range(len(DEEDS_DONE) - 1, -1, -1):
            hall.back()
            worlds.pop()
            ahead = worlds[-2] if k else None
            self.assertEqual(asked(hall), asked_by_functions(worlds[-1], ahead, DEEDS_DONE[:k], ()))

    def test_behind_a_row_of_deeds(self):
        hall, worlds = Hall(WORLD), [WORLD]
        for deed in DEEDS_DONE:
            worlds.append(world_behind(worlds[-1], deed))
        hall.tried(DEEDS_DONE)
        log = (("begin", 6), ("end", 6))
        self.assertEqual(asked(hall), asked_by_functions(worlds[-1], worlds[-2], DEEDS_DONE, log))
        with self.assertRaises(NoDeed):
            hall.tried([("stop", 0), ("shut", 0), None])
        log += (("begin", 3), ("end", 0))
        self.assertEqual(asked(hall), asked_by_functions(worlds[-1], worlds[-2], DEEDS_DONE, log))
        hall.back()
        self.assertEqual(asked(hall), asked_by_functions(worlds[-2], worlds[-3], DEEDS_DONE[:-1], log))

    def test_taken_back_all_is_as_it_was(self):
        for world in (WORLD, (2, ("ale", "bun"), (), ()), (1, ("ale",), (("ale", 0, 0, 9, 1),), ())):
            hall = Hall(world)
            ahead = asked(hall)
            hall.bring(("ale", 3, 0, 4, 2))
            hall.way(("ale", (("ale", 0, 3),), "oldest", (0,), 1))
            hall.window(len(hall.world()[3]) - 1, 0, 2, 5)
            hall.shut(0)
            hall.stop(0)
            for k in range(5):
                hall.back()
            self.assertEqual(asked(hall), ahead)

    def test_in_other_worlds(self):
        for world in (PLAIN, LARGEST, SMALLEST) + SLOW:
            hall = Hall(world)
            self.assertEqual(hall.table(), table(world))
            for kind in world[1]:
                for origin in (-FAR, -20, 0, 3, 17, FAR):
                    self.assertEqual(hall.ready(kind, origin), ready(world, kind, origin))
                    for age in (0, 5, 26, FAR):
                        told = hall.verdict(kind, origin, age)
                        self.assertEqual(told, verdict(world, kind, origin, age))
                        self.assertIs(verdict_holds(world, kind, origin, age, told), True)
            wish = tuple((kind, 0, 60) for kind in world[1])
            self.assertEqual(hall.first(wish), first_wish(world, wish))

    def test_by_hand(self):
        hall = Hall(WORLD)
        # The first ale is two old at 2, bun is made of it at 3, three old, and born four old.
        self.assertEqual(hall.ready("bun", 0), 4)
        self.assertIsNone(hall.ready("bun", -5))
        self.assertEqual(hall.first((("ale", 3, 3),)), 3)
        self.assertEqual(hall.most(("ale", 0, 7))[0], (4, 1))
        hall.bring(("ale", 0, 0, 0, 3))
        self.assertEqual(hall.most(("ale", 0, 7))[0], (7, 1))
        hall.stop(0)
        self.assertEqual(hall.most(("ale", 0, 7))[0], (3, 1))
        hall.stop(1)
        self.assertEqual(hall.most(("ale", 0, 7))[0], (0, 1))
        self.assertIsNone(hall.ready("ale", 0))
        self.assertEqual(hall.verdict("ale", 0, 9)[0], "never")
        self.assertIsNone(hall.first((("ale", 3, 3),)))

    def test_no_kind(self):
        hall = Hall(WORLD)
        for kind in ODD + ODD_TUPLES + ("al", "alee", "dip", 0, 1, HUGE, ["ale"], ("ale",), {"ale": 1}, ("ale", "bun", "cod")):
            for ask in (lambda: hall.ready(kind, 0), lambda: hall.verdict(kind, 0, 0)):
                ahead = state(hall)
                with self.assertRaises(NoKind) as caught:
                    ask()
                self.assertIs(caught.exception.kind, kind)
                self.assertEqual(state(hall), ahead)

    def test_wishes_and_wants_that_are_none(self):
        hall = Hall(WORLD)
        for thing in ODD + ODD_TUPLES + (("ale", 0, 1), [("ale", 0, 1)], (("dip", 0, 1),)):
            with self.assertRaises(BadWish) as caught:
                hall.first(thing)
            with self.assertRaises(BadWish) as wanted:
                first_wish(WORLD, thing)
            self.assertEqual((caught.exception.item, caught.exception.word), (wanted.exception.item, wanted.exception.word))
        for thing in ODD + ODD_TUPLES + (["ale", 0, 1], ("dip", 0, 1), ("ale", 8, 8), ("ale", 3, 2)):
            with self.assertRaises(BadWish) as caught:
                hall.most(thing)
            with self.assertRaises(BadWish) as wanted:
                most(WORLD, thing)
            self.assertEqual((caught.exception.item, caught.exception.word), (0, wanted.exception.word))
        hall.way(("ale", (("ale", 0, 6),), "oldest", (0,), 1))
        for thing in ODD + (("ale", 0, 1),):
            with self.assertRaises(NotNarrow):
                hall.most(thing)
        hall.window(3, 0, 0, 5)
        self.assertEqual(hall.most(("ale", 0, 1)), most(hall.world(), ("ale", 0, 1)))


class TestChanged(unittest.TestCase):
    def test_none_stands(self):
        hall = Hall(WORLD)
        self.assertEqual(hall.changed(), ())
        hall.stop(0)
        hall.back()
        self.assertEqual(hall.changed(), ())

    def test_of_the_last_that_stands(self):
        hall = Hall(WORLD)
        hall.stop(1)
        first = hall.changed()
        self.assertEqual(first, lacks(WORLD, world_behind(WORLD, ("stop", 1))))
        self.assertNotEqual(first, ())
        hall.hours(2, (1,))
        hall.bring(WORLD[2][1])
        # What was stopped is brought again; the tables are told ahead and behind.
        self.assertEqual([row[:3] for row in hall.changed()], [row[:3] for row in first])
        self.assertEqual([(row[4], row[3]) for row in hall.changed()], [row[3:] for row in first])
        hall.back()
        hall.back()
        self.assertEqual(hall.changed(), first)

    def test_by_hand(self):
        hall = Hall((1, ("a",), (), ()))
        hall.bring(("a", 20, 0, 5, 1))
        self.assertEqual(hall.changed(), tuple(("a", 0, age, None, -15) for age in range(20, 27)))
        hall.stop(0)
        self.assertEqual(hall.changed(), tuple(("a", 0, age, -15, None) for age in range(20, 27)))


class TestLength(unittest.TestCase):
    def test_len(self):
        hall = Hall(WORLD)
        self.assertEqual(len(hall), 0)
        for k in range(40):
            hall.hours(0, ())
            self.assertEqual(len(hall), k + 1)
        hall.back()
        self.assertEqual(len(hall), 39)
        self.assertEqual(len(full_hall()), 40)

    def test_str(self):
        self.assertEqual(str(Hall(WORLD)), "3 kinds, 2 sources, 3 ways, 0 deeds")
        self.assertEqual(str(Hall(SMALLEST)), "1 kinds, 0 sources, 0 ways, 0 deeds")
        self.assertEqual(str(Hall(LARGEST)), "4 kinds, 6 sources, 8 ways, 0 deeds")
        hall = Hall(WORLD)
        hall.bring(SOURCE)
        hall.way(WAY)
        self.assertEqual(str(hall), "3 kinds, 3 sources, 4 ways, 2 deeds")
        hall.stop(0)
        hall.stop(0)
        hall.shut(0)
        self.assertEqual(str(hall), "3 kinds, 1 sources, 3 ways, 5 deeds")
        self.assertEqual(f"{full_hall()}", "3 kinds, 2 sources, 3 ways, 40 deeds")


class TestTwin(unittest.TestCase):
    def test_just_so(self):
        hall = Hall(WORLD)
        hall.tried(DEEDS_DONE[:3])
        twin = hall.twin()
        self.assertIs(type(twin), Hall)
        self.assertIsNot(twin, hall)
        self.assertEqual(twin, hall)
        self.assertEqual(state(twin)[:-1], state(hall)[:-1])
        self.assertEqual(twin.log(), ())
        self.assertEqual(hall.log(), (("begin", 3), ("end", 3)))

    def test_go_their_own_ways(self):
        hall = Hall(WORLD)
        hall.tried(DEEDS_DONE[:3])
        twin = hall.twin()
        ahead = state(hall)
        twin.back()
        twin.back()
        self.assertEqual(twin.deeds(), DEEDS_DONE[:1])
        twin.tried([("stop", 0), ("stop", 0)])
        self.assertEqual(state(hall), ahead)
        ahead = state(twin)
        hall.back()
        hall.shut(0)
        hall.tried([])
        self.assertEqual(state(twin), ahead)
        self.assertEqual(twin.log(), (("begin", 2), ("end", 2)))
        for k in range(3):
            twin.back()
        self.assertEqual(twin.world(), WORLD)

    def test_twins_of_twins(self):
        hall = Hall(WORLD)
        hall.stop(0)
        twin = hall.twin().twin()
        twin.back()
        self.assertEqual(twin.world(), WORLD)
        self.assertEqual(len(hall), 1)

    def test_a_full_one(self):
        twin = full_hall().twin()
        self.assertEqual(len(twin), 40)
        twin.back()
        twin.stop(0)


class TestEqual(unittest.TestCase):
    def test_by_unlike_deeds(self):
        one, other = Hall(WORLD), Hall(WORLD)
        self.assertTrue(one == other)
        self.assertFalse(one != other)
        one.stop(1)
        self.assertFalse(one == other)
        self.assertTrue(one != other)
        other.hours(0, ())
        other.hours(0, (0, 1))
        other.tried([("stop", 1)])
        self.assertTrue(one == other)
        self.assertTrue(one == Hall(world_behind(WORLD, ("stop", 1))))
        one.back()
        self.assertFalse(one == other)

    def test_and_other_things(self):
        hall = Hall(WORLD)
        for thing in ODD + ODD_TUPLES + (WORLD, hall.deeds(), str(hall), len(hall), Hall):
            self.assertFalse(hall == thing)
            self.assertTrue(hall != thing)
            self.assertFalse(thing == hall)

    def test_worlds_that_differ_in_one_place(self):
        for deed in DEEDS_DONE[:4]:
            other = Hall(WORLD)
            do(other, deed)
            self.assertFalse(other == Hall(WORLD))


class TestAll(unittest.TestCase):
    def test_the_same_question_has_the_same_answer(self):
        hall = Hall(WORLD)
        hall.tried(DEEDS_DONE[:4])
        self.assertEqual(asked(hall), asked(hall))

    def test_what_is_told_is_of_tuples(self):
        hall = Hall(WORLD)
        hall.tried(DEEDS_DONE)
        for told in (hall.world(), hall.deeds(), hall.table(), hall.changed(), hall.log()):
            self.assertIs(type(told), tuple)

    def test_random_deeds_taken_back(self):
        dice = random.Random(291)
        for k in range(10):
            hall = Hall(WORLD)
            halls = [asked(hall)]
            while len(hall) < 6:
                deed = dice.choice((
                    ("hours", dice.randrange(3), dice.choice(((), (0,), (1,)))), ("window", 0, dice.randrange(2), 1, dice.randint(1, 5)),
                    ("window", 1, 0, dice.randint(0, 2), dice.randint(2, 5)), ("bring", ("bun", dice.randint(0, 5), 0, 3, 1))))
                if worldfault(world_behind(hall.world(), deed)) is None:
                    do(hall, deed)
                    halls.append(asked(hall))
            while len(hall):
                halls.pop()
                hall.back()
                self.assertEqual(asked(hall), halls[-1])


if __name__ == "__main__":
    unittest.main()
