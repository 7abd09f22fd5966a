"""[5] worldfault, and of [3] what a number and a name are."""

import copy
import unittest

from rightage.bounds import KINDS, MANY, OLD, PARTS, ROUND, SINCE, SOURCES, WAIT, WAYS
from rightage.worlds import worldfault
from tests.samples import (
    BOUND_SOURCE, BOUND_WAY, HUGE, LARGEST, ODD, ODD_TUPLES, PLAIN, SMALLEST, found, paths, replaced,
    worlds_of_all_sizes)

SOURCE_WORDS = ("kind", "age", "place", "since", "many")
WAY_WORDS = ("kind", "parts", "keeps", "hours", "wait")
PART_WORDS = ("kind", "least", "greatest")


def word_at(path):
    """The path and the word that the document tells of a wrong thing there."""
    if path == ():
        return (path, "world")
    if len(path) == 1:
        return (path, ("round", "kinds", "sources", "ways")[path[0]])
    if path[0] == 1:
        return (path, "name")
    if path[0] == 2:
        return (path, "source" if len(path) == 2 else SOURCE_WORDS[path[2]])
    if len(path) == 2:
        return (path, "way")
    # An hour that is wrong is told as its hours.
    if path[2] == 3:
        return (path[:3], "hours")
    if len(path) == 3:
        return (path, WAY_WORDS[path[2]])
    return (path, "part" if len(path) == 4 else PART_WORDS[path[4]])


def document_order(world):
    """The paths in the order in which the document goes through them."""
    # Ahead of what is in it comes the thing itself, and so does a lower number.
    return sorted(paths(world))


class TestWorlds(unittest.TestCase):
    def test_worlds_of_all_sizes(self):
        for world in worlds_of_all_sizes():
            self.assertIsNone(worldfault(world), world)

    def test_everything_at_its_least(self):
        source, way = ("a", 0, 0, 0, 1), ("a", (("a", 0, 0),), "oldest", (), 1)
        self.assertIsNone(worldfault((1, ("a",), (source,), (way,))))

    def test_each_count_up_to_its_bound(self):
        names = ("a", "b", "c", "d")
        for span in range(1, ROUND + 1):
            self.assertIsNone(worldfault((span, ("a",), (), ())))
        for many in range(1, KINDS + 1):
            self.assertIsNone(worldfault((1, names[:many], (), ())))
        for many in range(SOURCES + 1):
            self.assertIsNone(worldfault((1, ("a",), (("a", 0, 0, 0, 1),) * many, ())))
        for many in range(WAYS + 1):
            self.assertIsNone(worldfault((1, ("a",), (), (("a", (("a", 0, 0),), "oldest", (), 1),) * many)))
        for many in range(1, PARTS + 1):
            self.assertIsNone(worldfault((1, ("a",), (), (("a", (("a", 0, 0),) * many, "oldest", (), 1),))))


class TestFaults(unittest.TestCase):
    def told(self, path, new, world=PLAIN, at=None):
        """A new thing at a path is told at that path (or at the one given)."""
        wrong = replaced(world, path, new)
        with self.subTest(path=path, new=new):
            self.assertEqual(worldfault(wrong), word_at(path if at is None else at))

    def let(self, path, new, world=PLAIN):
        with self.subTest(path=path, new=new):
            self.assertIsNone(worldfault(replaced(world, path, new)))

    def numbers(self, path, low, high, world=PLAIN):
        """Just the numbers from low to high are let at that path."""
        for number in {low, low + 1, high - 1, high}:
            if low <= number <= high:
                self.let(path, number, world)
        for number in (low - 1, high + 1, -HUGE, HUGE):
            self.told(path, number, world)

    def test_whole_things_that_are_no_world(self):
        for thing in ODD + ODD_TUPLES + (PLAIN[:3], PLAIN + ((),), list(PLAIN), 4, 0, {"world": PLAIN}):
            with self.subTest(thing=thing):
                self.assertEqual(worldfault(thing), ((), "world"))

    def test_odd_things_in_each_place(self):
        for world in (PLAIN, LARGEST):
            for path in paths(world):
                tuples = () if isinstance(found(world, path), tuple) else ODD_TUPLES
                for thing in ODD + tuples:
                    self.told(path, thing, world)

    def test_a_list_in_the_place_of_each_tuple(self):
        for world in (SMALLEST, PLAIN, LARGEST):
            for path in paths(world):
                if isinstance(found(world, path), tuple):
                    self.told(path, list(found(world, path)), world)

    def test_a_list_of_lists_all_through(self):
        for path in ((2, 1), (3, 0), (3, 0, 1), (3, 0, 1, 1)):
            parts = [list(part) if isinstance(part, tuple) else part for part in found(PLAIN, path)]
            self.told(path, parts)

    def test_truths_in_the_place_of_each_number(self):
        ones = (2, ("a",), (("a", 1, 1, 1, 1),), (("a", (("a", 1, 1),), "oldest", (1,), 1),))
        noughts = (1, ("a",), (("a", 0, 0, 0, 1),), (("a", (("a", 0, 0),), "oldest", (0,), 1),))
        for world, truth in ((ones, True), (noughts, False)):
            for path in paths(world):
                if isinstance(found(world, path), int):
                    self.told(path, truth, world)
                    self.told(path, not truth, world)

    def test_a_part_more_or_fewer(self):
        fixed = ((), (2, 0), (2, 1), (3, 0), (3, 1), (3, 0, 1, 0), (3, 0, 1, 1), (3, 1, 1, 0))
        for path in fixed:
            self.told(path, found(PLAIN, path)[:-1])
            self.told(path, found(PLAIN, path) + (1,))
            self.told(path, ())

    def test_round(self):
        self.numbers((0,), 1, ROUND, SMALLEST)

    def test_kinds(self):
        self.told((1,), ())
        self.told((1,), ("bud", "jam", "rye", "x", "y"))
        self.told((1,), "abc")

    def test_names_let(self):
        for name in ("a", "z", "abcdefgh", "zzzzzzzz"):
            self.let((1,), (name,), SMALLEST)

    def test_names_refused(self):
        wrong = (
            "", "abcdefghi", "Abc", "abC", "ABC", "a1", "1", "a b", " a", "a ", " ", "a-b", "a_b", "a\n",
            "\n", "a.b", "~", "`", "{", "\u00e4", "\u00df", "\u0430", "\u0061\u0308", b"a", 7, ("a",))
        for name in wrong:
            with self.subTest(name=name):
                self.assertEqual(worldfault((1, (name,), (), ())), ((1, 0), "name"))
                self.assertEqual(worldfault((1, ("a", name), (), ())), ((1, 1), "name"))

    def test_names_that_do_not_rise(self):
        self.assertEqual(worldfault((1, ("a", "a"), (), ())), ((1, 1), "name"))
        self.assertEqual(worldfault((1, ("b", "a"), (), ())), ((1, 1), "name"))
        self.assertEqual(worldfault((1, ("ab", "a"), (), ())), ((1, 1), "name"))
        self.assertEqual(worldfault((1, ("a", "c", "b", "d"), (), ())), ((1, 2), "name"))
        self.assertEqual(worldfault((1, ("a", "b", "c", "a"), (), ())), ((1, 3), "name"))
        self.assertEqual(worldfault((1, ("a", "b", "b", 1), (), ())), ((1, 2), "name"))
        self.assertIsNone(worldfault((1, ("a", "aa", "ab", "b"), (), ())))

    def test_sources(self):
        self.told((2,), (BOUND_SOURCE,) * (SOURCES + 1), LARGEST)
        self.told((2,), "abc")
        # That they are too many comes ahead of what is wrong with each.
        self.told((2,), (None,) * (SOURCES + 1))

    def test_source_fields(self):
        for k in (0, 1):
            self.numbers((2, k, 1), 0, OLD)
            self.numbers((2, k, 2), 0, PLAIN[0] - 1)
            self.numbers((2, k, 3), 0, SINCE)
            self.numbers((2, k, 4), 1, MANY)

    def test_kinds_of_sources_ways_and_parts(self):
        for path in ((2, 0, 0), (2, 1, 0), (3, 0, 0), (3, 1, 0), (3, 0, 1, 0, 0), (3, 0, 1, 1, 0), (3, 1, 1, 0, 0)):
            for kind in PLAIN[1]:
                self.let(path, kind)
            for kind in ("bu", "budd", "BUD", "a", ("bud",), ["bud"], 0, 1):
                self.told(path, kind)

    def test_places_reach_to_one_less_than_the_round(self):
        for span in range(1, ROUND + 1):
            world = (span, ("a",), (("a", 0, 0, 0, 1),), (("a", (("a", 0, 0),), "oldest", (0,), 1),))
            self.numbers((2, 0, 2), 0, span - 1, world)
            self.let((3, 0, 3), tuple(range(span)), world)
            self.told((3, 0, 3), tuple(range(span + 1)), world)
            self.told((3, 0, 3), (span,), world)

    def test_ways(self):
        self.told((3,), (BOUND_WAY,) * (WAYS + 1), LARGEST)
        self.told((3,), "abc")
        self.told((3,), (None,) * (WAYS + 1))

    def test_parts(self):
        part = ("bud", 0, 1)
        self.told((3, 0, 1), ())
        self.told((3, 0, 1), (part,) * (PARTS + 1))
        self.told((3, 1, 1), (None,) * (PARTS + 1))
        self.told((3, 1, 1), (part, part, None), at=(3, 1, 1, 2))

    def test_ages_of_parts(self):
        for path in ((3, 0, 1, 0), (3, 0, 1, 1), (3, 1, 1, 0)):
            whole = replaced(PLAIN, path, ("bud", 0, OLD))
            self.numbers(path + (1,), 0, OLD, whole)
            for least in (0, 1, 5, OLD - 1, OLD):
                self.numbers(path + (2,), least, OLD, replaced(whole, path + (1,), least))

    def test_a_least_above_its_greatest_is_told_at_the_greatest(self):
        self.told((3, 0, 1, 1), ("bud", 5, 4), at=(3, 0, 1, 1, 2))
        self.told((3, 0, 1, 1), ("bud", OLD + 1, OLD + 1), at=(3, 0, 1, 1, 1))

    def test_keeps(self):
        for keeps in ("oldest", "youngest"):
            self.let((3, 0, 2), keeps)
        for keeps in ("Oldest", "old", "oldest ", "", "youngest\n", ("oldest",), ["youngest"], 0, 1):
            self.told((3, 0, 2), keeps)

    def test_hours(self):
        for hours in ((), (0,), (3,), (0, 1), (1, 3), (0, 1, 2, 3)):
            self.let((3, 0, 3), hours)
        for hours in (
                (4,), (-1,), (0, 4), (1, 1), (0, 0), (3, 2), (0, 2, 1), (0, 2, 2), (True,), (False,), (0, True),
                (None,), ("0",), ((0,),), (0, 1, 2, 3, 4), (0, 1, 2, 3, 3), [], [0], "", "01", {}, 0, (HUGE,)):
            self.told((3, 0, 3), hours)

    def test_wait(self):
        self.numbers((3, 0, 4), 1, WAIT)
        self.numbers((3, 1, 4), 1, WAIT)


class TestOrder(unittest.TestCase):
    def test_of_two_faults_the_first_one(self):
        for world in (PLAIN, replaced(PLAIN, (2,), (PLAIN[2][0],) * 3)):
            order = document_order(world)
            for at, first in enumerate(order):
                for second in order[at + 1:]:
                    # The later one first, as the earlier one may be all around it.
                    wrong = replaced(replaced(world, second, None), first, None)
                    self.assertEqual(worldfault(wrong), word_at(first), (first, second))

    def test_all_wrong_within(self):
        self.assertEqual(worldfault((0, (), [], [])), ((0,), "round"))
        self.assertEqual(worldfault((1, (), [], [])), ((1,), "kinds"))
        self.assertEqual(worldfault((1, ("",), [], [])), ((1, 0), "name"))
        self.assertEqual(worldfault((1, ("a",), [], [])), ((2,), "sources"))
        self.assertEqual(worldfault((1, ("a",), ((),), [])), ((2, 0), "source"))
        self.assertEqual(worldfault((1, ("a",), (("b", -1, 1, -1, 0),), [])), ((2, 0, 0), "kind"))
        self.assertEqual(worldfault((1, ("a",), (("a", -1, 1, -1, 0),), [])), ((2, 0, 1), "age"))
        self.assertEqual(worldfault((1, ("a",), (("a", 0, 1, -1, 0),), [])), ((2, 0, 2), "place"))
        self.assertEqual(worldfault((1, ("a",), (("a", 0, 0, -1, 0),), [])), ((2, 0, 3), "since"))
        self.assertEqual(worldfault((1, ("a",), (("a", 0, 0, 0, 0),), [])), ((2, 0, 4), "many"))
        self.assertEqual(worldfault((1, ("a",), (), [])), ((3,), "ways"))

    def test_all_wrong_within_a_way(self):
        def told(way):
            return worldfault((1, ("a",), (), (way, ())))
        part = ("a", 0, 0)
        self.assertEqual(told(("b", (), "", (1,), 0)), ((3, 0, 0), "kind"))
        self.assertEqual(told(("a", (), "", (1,), 0)), ((3, 0, 1), "parts"))
        self.assertEqual(told(("a", ((),), "", (1,), 0)), ((3, 0, 1, 0), "part"))
        self.assertEqual(told(("a", (("b", -1, -2),), "", (1,), 0)), ((3, 0, 1, 0, 0), "kind"))
        self.assertEqual(told(("a", (("a", -1, -2),), "", (1,), 0)), ((3, 0, 1, 0, 1), "least"))
        self.assertEqual(told(("a", (("a", 1, 0), ()), "", (1,), 0)), ((3, 0, 1, 0, 2), "greatest"))
        self.assertEqual(told(("a", (part, ()), "", (1,), 0)), ((3, 0, 1, 1), "part"))
        self.assertEqual(told(("a", (part,), "", (1,), 0)), ((3, 0, 2), "keeps"))
        self.assertEqual(told(("a", (part,), "oldest", (1,), 0)), ((3, 0, 3), "hours"))
        self.assertEqual(told(("a", (part,), "oldest", (0,), 0)), ((3, 0, 4), "wait"))
        self.assertEqual(told(("a", (part,), "oldest", (0,), 1)), ((3, 1), "way"))


class TestAsked(unittest.TestCase):
    def things(self):
        return list(ODD) + [replaced(PLAIN, path, odd) for path in paths(PLAIN) for odd in ODD] + [PLAIN]

    def test_asked_again_the_same(self):
        for thing in self.things():
            self.assertEqual(worldfault(thing), worldfault(thing))

    def test_nothing_handed_in_is_changed(self):
        for thing in self.things():
            ahead = copy.deepcopy(thing)
            worldfault(thing)
            self.assertEqual(thing, ahead)
            self.assertEqual(repr(thing), repr(ahead))

    def test_what_is_told_is_made_of_tuples(self):
        for thing in self.things():
            told = worldfault(thing)
            if told is not None:
                path, word = told
                self.assertIs(type(told), tuple)
                self.assertIs(type(path), tuple)
                self.assertTrue(all(type(number) is int for number in path))
                self.assertIs(type(word), str)

    def test_deep_and_long_things(self):
        deep = ()
        for k in range(20):
            deep = (deep,)
        self.assertEqual(worldfault((1, deep, (), ())), ((1, 0), "name"))
        self.assertEqual(worldfault((1,) * 4000), ((), "world"))
        self.assertEqual(worldfault((1, ("a",), (), (("a", (("a", 0, 0),), "oldest", (0,) * 3900, 1),))),
                         ((3, 0, 3), "hours"))


if __name__ == "__main__":
    unittest.main()
