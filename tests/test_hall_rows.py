"""[28] tried and log."""

import unittest

from rightage.bounds import DEEDS
from rightage.errors import BadWorld, Busy, Long, NoDeed, NoPart, NoSource, NoWay
from rightage.halls import Hall
from tests.hallsamples import DEEDS_DONE, SOURCE, WAY, WORLD, asked, do, full_hall, state, world_behind
from tests.samples import HUGE, ODD, ODD_TUPLES

# Each is refused at WORLD and behind any of DEEDS_DONE, with this error.
REFUSED = (
    (("stop", 7), NoSource), (("stop", True), NoSource), (("shut", -1), NoWay), (("hours", 9, ()), NoWay),
    (("hours", 0, [0]), BadWorld), (("window", 0, 5, 0, 0), NoPart), (("window", 0, 0, 2, 1), BadWorld), (("bring", None), BadWorld),
    (("way", ()), BadWorld), (("window", None, 0, 0, 0), NoWay))

NO_DEEDS = ODD + ODD_TUPLES + (
    ("back",), ("bring",), ("bring", SOURCE, SOURCE), ("way",), ("way", WAY, 1), ("stop",), ("stop", 0, 1), ("shut",), ("shut", 0, 0),
    ("hours", 0), ("hours", 0, (), 1), ("window", 0, 0, 1), ("window", 0, 0, 1, 1, 1), ("Stop", 0), ("tried", ()), ("twin",), ("log",),
    ("world",), ("", 0), (None, 0), (True, 0), (0, 0), (["stop"], 0), (("stop",), 0), ({}, 0), ({"a": 1}, 0), ["stop", 0], "stop",
    [("stop", 0)], (("stop", 0),), {"stop": 0}, ("back", 0), ("say", 0), (HUGE, 0), ("stop ", 0), ("__len__",))


class Stopped(Exception):
    """What tells of these tests raise."""


class RowsCase(unittest.TestCase):
    def refused(self, hall, deeds, error, logged, tell=None, **fields):
        """tried is refused so, and all but the log is as ahead; the log has these rows more."""
        ahead, log = state(hall)[:-1], hall.log()
        with self.assertRaises(error) as caught:
            hall.tried(deeds, tell=tell)
        self.assertIs(type(caught.exception), error)
        for name, field in fields.items():
            self.assertEqual(getattr(caught.exception, name), field)
        self.assertEqual(state(hall)[:-1], ahead)
        self.assertEqual(hall.log(), (log + logged)[-10:])


class TestDone(RowsCase):
    def test_lists_and_tuples(self):
        wanted = Hall(WORLD)
        for deed in DEEDS_DONE:
            do(wanted, deed)
        for deeds in (DEEDS_DONE, list(DEEDS_DONE)):
            hall = Hall(WORLD)
            self.assertIsNone(hall.tried(deeds))
            self.assertEqual(state(hall)[:-1], state(wanted)[:-1])
            self.assertEqual(hall.log(), (("begin", 6), ("end", 6)))
            # Each stands by itself.
            for k in range(5, -1, -1):
                hall.back()
                self.assertEqual(hall.deeds(), DEEDS_DONE[:k])
            self.assertEqual(hall.world(), WORLD)
            self.assertEqual(hall.log(), (("begin", 6), ("end", 6)))

    def test_none(self):
        hall = Hall(WORLD)
        for k, deeds in enumerate(((), [])):
            ahead = state(hall)[:-1]
            self.assertIsNone(hall.tried(deeds))
            self.assertEqual(state(hall)[:-1], ahead)
            self.assertEqual(hall.log(), (("begin", 0), ("end", 0)) * (k + 1))
        hall = full_hall()
        self.assertIsNone(hall.tried([]))
        heard = []
        hall.tried([], tell=heard.append)
        self.assertEqual(heard, [])

    def test_as_many_as_can_be(self):
        deeds = [("hours", 0, (k % 2,)) for k in range(DEEDS)]
        hall = Hall(WORLD)
        self.assertIsNone(hall.tried(deeds))
        self.assertEqual(hall.deeds(), tuple(deeds))
        self.assertEqual(hall.log(), (("begin", 40), ("end", 40)))
        # With one ahead the last one is too many.
        hall = Hall(WORLD)
        hall.stop(0)
        self.refused(hall, deeds, Long, (("begin", 40), ("end", 0)))
        self.assertIsNone(hall.tried(deeds[1:]))
        self.refused(hall, deeds[:1], Long, (("begin", 1), ("end", 0)))

    def test_one_behind_the_other_sees_it(self):
        hall = Hall(WORLD)
        hall.tried([("bring", SOURCE), ("stop", 2), ("way", WAY), ("window", 3, 0, 0, 0), ("hours", 3, ()), ("shut", 3)])
        self.assertEqual(hall.world(), WORLD)
        self.assertEqual(len(hall), 6)
        self.refused(hall, [("stop", 1), ("stop", 1)], NoSource, (("begin", 2), ("end", 0)), number=1)

    def test_behind_rows_of_deeds(self):
        hall = Hall(WORLD)
        for k in range(3):
            hall.tried([("hours", 1, ())] * 2)
            hall.hours(1, (1,))
        self.assertEqual(hall.deeds(), (("hours", 1, ()), ("hours", 1, ()), ("hours", 1, (1,))) * 3)
        for k in range(9):
            hall.back()
        self.assertEqual(hall, Hall(WORLD))


class TestRefused(RowsCase):
    def test_at_each_place(self):
        for deed, error in REFUSED:
            for at in range(len(DEEDS_DONE) + 1):
                for deeds in (DEEDS_DONE[:at] + (deed,) + DEEDS_DONE[at:], DEEDS_DONE[:at] + (deed,)):
                    hall = Hall(WORLD)
                    hall.hours(2, (1,))
                    self.refused(hall, deeds, error, (("begin", len(deeds)), ("end", 0)))
                    self.refused(hall, list(deeds), error, (("begin", len(deeds)), ("end", 0)))

    def test_fields(self):
        hall = Hall(WORLD)
        rows = (("begin", 2), ("end", 0))
        self.refused(hall, [("stop", 0), ("stop", 1)], NoSource, rows, number=1)
        self.refused(hall, [("shut", 2), ("shut", 2)], NoWay, rows, number=2)
        self.refused(hall, [("shut", 0), ("window", 0, 1, 0, 0)], NoPart, rows, part=1)
        self.refused(hall, [("bring", SOURCE), ("bring", SOURCE[:4])], BadWorld, rows, path=(2, 3), word="source")
        self.refused(hall, [("way", WAY), ("hours", 3, (7,))], BadWorld, rows, path=(3, 3, 3), word="hours")

    def test_no_deed_when_it_comes_to_be_done(self):
        for thing in NO_DEEDS:
            for at in (0, 1, 3, 6):
                deeds = DEEDS_DONE[:at] + (thing,) + DEEDS_DONE[at:]
                hall = Hall(WORLD)
                self.refused(hall, list(deeds), NoDeed, (("begin", 7), ("end", 0)), number=at)
                self.refused(hall, deeds, NoDeed, (("begin", 7), ("end", 0)), number=at)

    def test_what_comes_first_is_told(self):
        hall = Hall(WORLD)
        self.refused(hall, [("stop", 9), None], NoSource, (("begin", 2), ("end", 0)))
        self.refused(hall, [None, ("stop", 9)], NoDeed, (("begin", 2), ("end", 0)), number=0)
        self.refused(hall, [("stop", 0), None, ("stop", 9), ()], NoDeed, (("begin", 4), ("end", 0)), number=1)

    def test_no_deed_ahead_of_long(self):
        hall = full_hall()
        self.refused(hall, [None], NoDeed, (("begin", 1), ("end", 0)), number=0)
        self.refused(hall, [("stop",)], NoDeed, (("begin", 1), ("end", 0)), number=0)
        self.refused(hall, [("stop", 9)], Long, (("begin", 1), ("end", 0)))
        hall.back()
        self.refused(hall, [("stop", 0), ("back",)], NoDeed, (("begin", 2), ("end", 0)), number=1)
        self.refused(hall, [("stop", 0), ("stop", 0), None], Long, (("begin", 3), ("end", 0)))

    def test_no_row_of_deeds(self):
        hall = Hall(WORLD)
        things = [thing for thing in ODD if not isinstance(thing, list)]
        things += ["stop", {"stop": 0}, 7, [("stop", 0)] * 41, (("hours", 0, ()),) * 41, [None] * 41, (None,) * 4000]
        for thing in things:
            self.refused(hall, thing, NoDeed, (), number=None)
        full = full_hall()
        for thing in things:
            self.refused(full, thing, NoDeed, (), number=None)

    def test_a_deed_is_no_row_of_deeds(self):
        hall = Hall(WORLD)
        self.refused(hall, ("stop", 0), NoDeed, (("begin", 2), ("end", 0)), number=0)
        self.refused(hall, [[("stop", 0)]], NoDeed, (("begin", 1), ("end", 0)), number=0)
        self.refused(hall, [None] * 40, NoDeed, (("begin", 40), ("end", 0)), number=0)

    def test_can_be_done_again(self):
        hall = Hall(WORLD)
        self.refused(hall, DEEDS_DONE + (None,), NoDeed, (("begin", 7), ("end", 0)))
        self.assertIsNone(hall.tried(DEEDS_DONE))
        self.assertEqual(hall.deeds(), DEEDS_DONE)
        hall.back()
        hall.bring(SOURCE)
        self.assertEqual(len(hall), 6)


class TestTell(RowsCase):
    def test_called_behind_each(self):
        heard = []

        def tell(hall):
            heard.append((hall, hall.deeds(), hall.world(), hall.log()))
        hall = Hall(WORLD)
        hall.stop(1)
        self.assertIsNone(hall.tried(DEEDS_DONE[:4], tell=tell))
        world = world_behind(WORLD, ("stop", 1))
        self.assertEqual(len(heard), 4)
        for k, (told, deeds, there, log) in enumerate(heard):
            self.assertIs(told, hall)
            self.assertEqual(deeds, (("stop", 1),) + DEEDS_DONE[:k + 1])
            world = world_behind(world, DEEDS_DONE[k])
            self.assertEqual(there, world)
            self.assertEqual(log, (("begin", 4),))

    def test_called_whatever_comes_behind(self):
        for deed in (("stop", 9), None):
            heard = []
            hall = Hall(WORLD)
            self.refused(hall, DEEDS_DONE[:3] + (deed,) + DEEDS_DONE[3:], NoSource if deed else NoDeed,
                         (("begin", 7), ("end", 0)), tell=lambda told: heard.append(len(told)))
            self.assertEqual(heard, [1, 2, 3])

    def test_what_it_tells_doesnt_matter(self):
        for thing in (None, True, False, 0, "no", []):
            hall = Hall(WORLD)
            self.assertIsNone(hall.tried(DEEDS_DONE, tell=lambda told: thing))
            self.assertEqual(hall.deeds(), DEEDS_DONE)

    def test_asks_all(self):
        heard = []
        hall = Hall(WORLD)
        hall.tried(DEEDS_DONE, tell=lambda told: heard.append(asked(told)))
        beside = Hall(WORLD)
        for deed, told in zip(DEEDS_DONE, heard):
            do(beside, deed)
            wanted = asked(beside)
            self.assertEqual(told[0][:-1], wanted[0][:-1])
            self.assertEqual(told[1:], wanted[1:])

    def test_busy_there_alone(self):
        twins = []

        def tell(hall):
            for deed in DEEDS_DONE + (("stop", 9), ("hours", None, None)):
                ahead = state(hall)
                with self.assertRaises(Busy):
                    do(hall, deed)
                self.assertEqual(state(hall), ahead)
            with self.assertRaises(Busy):
                hall.back()
            for deeds in ([], [("stop", 0)], None, [None]):
                with self.assertRaises(Busy):
                    hall.tried(deeds)
            twin = hall.twin()
            self.assertEqual(twin.deeds(), hall.deeds())
            self.assertEqual(twin.log(), ())
            twin.tried([("hours", 0, ()), ("hours", 0, (1,))], tell=lambda other: twins.append((other, other.deeds())))
            twin.back()
            twin.back()
            twin.back()
            self.assertEqual(len(twin), len(hall) - 1)
            twin.shut(0)
            other.hours(1, ())
        other = Hall(WORLD)
        hall = Hall(WORLD)
        self.assertIsNone(hall.tried(DEEDS_DONE, tell=tell))
        self.assertEqual(hall.deeds(), DEEDS_DONE)
        self.assertEqual(hall.log(), (("begin", 6), ("end", 6)))
        self.assertEqual(other.deeds(), (("hours", 1, ()),) * 6)
        self.assertEqual(len(twins), 12)
        # No more busy behind it.
        hall.back()
        hall.tried([("hours", 0, ())])
        self.assertEqual(len(hall), 6)

    def test_raises_at_each_call(self):
        for at in range(len(DEEDS_DONE)):
            for error in (Stopped, ValueError, KeyboardInterrupt, BadWorld, StopIteration):
                heard = []

                def tell(hall):
                    heard.append(hall.deeds())
                    if len(heard) == at + 1:
                        raise error(1, 2)
                hall = Hall(WORLD)
                hall.hours(2, (0,))
                self.refused(hall, DEEDS_DONE, error, (("begin", 6), ("end", 0)), tell=tell)
                self.assertEqual(heard, [(("hours", 2, (0,)),) + DEEDS_DONE[:k + 1] for k in range(at + 1)])
                self.assertIsNone(hall.bring(SOURCE))
                hall.back()
                self.assertIsNone(hall.tried(DEEDS_DONE))
                hall.back()
                self.assertEqual(len(hall), 6)

    def test_what_it_raises_goes_through_as_it_is(self):
        error = Stopped("so")

        def tell(hall):
            raise error
        with self.assertRaises(Stopped) as caught:
            Hall(WORLD).tried(DEEDS_DONE, tell=tell)
        self.assertIs(caught.exception, error)

    def test_a_busy_that_goes_through(self):
        hall = Hall(WORLD)
        self.refused(hall, DEEDS_DONE, Busy, (("begin", 6), ("end", 0)), tell=lambda told: told.stop(0))
        self.refused(hall, DEEDS_DONE, Busy, (("begin", 6), ("end", 0)), tell=lambda told: told.back())
        self.refused(hall, DEEDS_DONE, Busy, (("begin", 6), ("end", 0)), tell=lambda told: told.tried(()))
        self.assertIsNone(hall.tried(DEEDS_DONE))

    def test_a_list_that_it_changes(self):
        for change in (list.clear, lambda row: row.append(None), lambda row: row.reverse(), lambda row: row.insert(0, ("stop", 9))):
            deeds = list(DEEDS_DONE)
            hall = Hall(WORLD)
            self.assertIsNone(hall.tried(deeds, tell=lambda told: change(deeds)))
            self.assertEqual(hall.deeds(), DEEDS_DONE)
            self.assertEqual(hall.log(), (("begin", 6), ("end", 6)))
        deeds = list(DEEDS_DONE)
        hall = Hall(WORLD)
        hall.tried(deeds)
        deeds.clear()
        self.assertEqual(hall.deeds(), DEEDS_DONE)

    def test_the_list_is_left_as_it_was(self):
        deeds = list(DEEDS_DONE) + [None]
        with self.assertRaises(NoDeed):
            Hall(WORLD).tried(deeds)
        self.assertEqual(deeds, list(DEEDS_DONE) + [None])


class TestLog(unittest.TestCase):
    def test_the_last_ten(self):
        hall = Hall(WORLD)
        rows = []
        self.assertEqual(hall.log(), ())
        for k in range(12):
            deeds = [("hours", 0, ())] * (k % 4)
            if k % 3 == 2:
                with self.assertRaises(NoDeed):
                    hall.tried(deeds + [None])
                rows += [("begin", k % 4 + 1), ("end", 0)]
            else:
                hall.tried(deeds)
                rows += [("begin", k % 4), ("end", k % 4)]
            self.assertEqual(hall.log(), tuple(rows[-10:]))
            self.assertIs(type(hall.log()), tuple)

    def test_the_last_ten_in_the_midst(self):
        heard = []
        hall = Hall(WORLD)
        for k in range(7):
            hall.tried([("hours", 0, ())], tell=lambda told: heard.append(told.log()))
        for k, log in enumerate(heard):
            self.assertEqual(log, ((("begin", 1), ("end", 1)) * k + (("begin", 1),))[-10:])

    def test_no_rows_of_other_deeds(self):
        hall = Hall(WORLD)
        for deed in DEEDS_DONE:
            do(hall, deed)
        hall.back()
        with self.assertRaises(NoSource):
            hall.stop(9)
        with self.assertRaises(NoDeed):
            hall.tried(None)
        self.assertEqual(hall.log(), ())


if __name__ == "__main__":
    unittest.main()
