"""[13] verdict and verdict_holds, and the promise of [2]: just one of two papers."""

import copy
import random
import unittest

from rightage.bounds import FAR, LAST, OLD, READY
from rightage.leaks import leak
from rightage.least import ready, table
from rightage.papers import moved, paperfault, shows, trimmed
from rightage.tables import has
from rightage.verdicts import verdict, verdict_holds
from tests.byhand import SLOW, gone_through, greatest_world, had, shut_by, small_world
from tests.samples import (
    HUGE, LARGEST, ODD, ODD_TUPLES, PLAIN, SMALLEST, empty_table, found, fullest_table, paths, random_table,
    random_world, replaced)

# Ale comes at 0, 3, 6, .. one old; bun is made of two, three and six moments old or more, at 2, 5, 8, ..
WORLD = (
    3, ("ale", "bun"), (("ale", 1, 0, 0, 1),), (("bun", (("ale", 3, 3), ("ale", 6, 9)), "youngest", (2,), 1),))


def some_worlds():
    dice = random.Random(131)
    told = [PLAIN, LARGEST, SMALLEST, WORLD] + list(SLOW)
    told += [random_world(dice) for k in range(15)]
    return told + [small_world(dice) for k in range(40)] + [greatest_world(dice) for k in range(3)]


def places(world):
    return [(k, kind, place) for k, kind in enumerate(world[1]) for place in range(world[0])]


class TestByHand(unittest.TestCase):
    def test_a_paper(self):
        # At 5 ale of -1 is six old and ale of 2 three old: bun of 2, born at 6.
        word, paper = verdict(WORLD, "bun", 2, 4)
        self.assertEqual(word, "rows")
        self.assertEqual(sorted(paper[:2]), [("brought", 0, 0), ("brought", 0, 3)])
        self.assertEqual(paper[2][:3], ("made", 0, 5))
        self.assertTrue(shows(WORLD, "bun", 2, 4, paper))

    def test_brought(self):
        self.assertEqual(verdict(WORLD, "ale", -1, 1), ("rows", (("brought", 0, 0),)))
        self.assertEqual(verdict(WORLD, "ale", 5, 1), ("rows", (("brought", 0, 6),)))
        self.assertEqual(verdict(WORLD, "ale", 5, FAR), ("rows", (("brought", 0, 6),)))

    def test_never(self):
        least = table(WORLD)
        for kind, origin, age in (("bun", 2, 3), ("bun", -1, 90), ("bun", 3, 90), ("ale", -1, 0), ("ale", -4, FAR),
                                  ("ale", 0, 5), ("bun", -FAR, FAR), ("ale", FAR, 20)):
            self.assertEqual(verdict(WORLD, kind, origin, age), ("never", least), (kind, origin, age))
            self.assertTrue(verdict_holds(WORLD, kind, origin, age, ("never", least)))

    def test_far(self):
        # FAR is of place 1, so 10 ** 15 - 2 is of place 2.
        origin = FAR - 2
        self.assertEqual(origin % 3, 2)
        word, paper = verdict(WORLD, "bun", origin, 4)
        self.assertEqual(word, "rows")
        self.assertEqual(len(paper), 3)
        self.assertTrue(shows(WORLD, "bun", origin, 4, paper))
        self.assertEqual(verdict(WORLD, "bun", origin, 3)[0], "never")


class TestOneOfBoth(unittest.TestCase):
    def check(self, world, least, kind, origin, age):
        told = verdict(world, kind, origin, age)
        wanted = "rows" if has(world, least, kind, origin, age) else "never"
        self.assertEqual(told[0], wanted, (world, kind, origin, age))
        self.assertIs(verdict_holds(world, kind, origin, age, told), True)
        if wanted == "rows":
            self.assertIs(shows(world, kind, origin, age, told[1]), True)
        # No shut table hasn't what a paper shows, and no paper shows what a shut table hasn't.
        self.assertIs(verdict_holds(world, kind, origin, age, ("never", told[1])), wanted == "never")
        self.assertIs(verdict_holds(world, kind, origin, age, ("rows", told[1])), wanted == "rows")
        self.assertIs(verdict_holds(world, kind, origin, age, ("never", least)), wanted == "never")
        return told

    def test_at_each_number_of_the_table_and_beside_it(self):
        for world in some_worlds():
            least = table(world)
            for k, kind, place in places(world):
                row = least[k][place]
                starts = [age for age in range(READY + 1)
                          if row[age] is not None and (age == 0 or row[age - 1] != row[age])]
                for age in starts[:1] + starts[-1:]:
                    self.check(world, least, kind, row[age], age)
                    self.check(world, least, kind, row[age] - world[0], age)
                    if age > 0:
                        self.check(world, least, kind, row[age], age - 1)

    def test_far_at_the_age_of_readiness_and_one_less(self):
        rows = 0
        for world in some_worlds():
            least = table(world)
            for k, kind, place in places(world):
                origin = FAR - (FAR - place) % world[0]
                age = ready(world, kind, origin)
                if age is None:
                    self.check(world, least, kind, origin, FAR)
                else:
                    told = self.check(world, least, kind, origin, age)
                    self.assertLess(len(told[1]), 400)
                    rows += 1
                    if age > 0:
                        self.check(world, least, kind, origin, age - 1)
        self.assertGreater(rows, 150)

    def test_against_moments(self):
        dice = random.Random(132)
        for attempt in range(25):
            world = small_world(dice)
            born = gone_through(world, 110)
            for step in range(25):
                kind, origin, age = dice.choice(world[1]), dice.randint(-OLD, 80), dice.randint(0, READY)
                wanted = "rows" if had(born, kind, origin, age) else "never"
                self.assertEqual(verdict(world, kind, origin, age)[0], wanted)

    def test_ages_beyond_ready(self):
        for world in some_worlds()[:20]:
            least = table(world)
            for k, kind, place in places(world):
                number = least[k][place][READY]
                origin = place if number is None else number
                for age in (READY, READY + 1, 500, FAR):
                    self.check(world, least, kind, origin, age)
                    self.check(world, least, kind, origin - world[0], age)

    def test_ways_alike_but_for_their_hours(self):
        ways = tuple(("bun", (("ale", 0, 9),), "oldest", (hour,), 2) for hour in range(4))
        for turn in range(4):
            world = (4, ("ale", "bun"), (("ale", 1, 2, 0, 1),), ways[turn:] + ways[:turn])
            for age in range(8):
                self.check(world, table(world), "bun", 1, age)
                self.check(world, table(world), "bun", FAR - 3, age)

    def test_things_that_need_each_other_round_by_round(self):
        # The first cod comes ten old; a bun needs a cod, and with a bun cod is made younger, of the bun's round:
        # followed back moment by moment that would lead through all rounds.
        world = (2, ("bun", "cod", "dip"), (("dip", 0, 0, 0, 1), ("cod", 10, 1, 0, 1)), (
            ("bun", (("dip", 0, 4), ("cod", 3, 10)), "youngest", (0, 1), 1),
            ("cod", (("dip", 1, 6), ("bun", 1, 6)), "youngest", (0, 1), 1)))
        for kind in ("bun", "cod"):
            for place in (0, 1):
                origin = FAR - 2 + place
                age = ready(world, kind, origin)
                if age is not None:
                    told = self.check(world, table(world), kind, origin, age)
                    self.assertLess(len(told[1]), 60)


class TestHolds(unittest.TestCase):
    kind, origin, age = "bun", 11, 4
    paper = (("brought", 0, 9), ("brought", 0, 12), ("made", 0, 14, (1, 0)))

    def holds(self, thing, kind="bun", origin=11, age=4):
        return verdict_holds(WORLD, kind, origin, age, thing)

    def test_any_paper_that_shows_it(self):
        self.assertIs(self.holds(("rows", self.paper)), True)
        other = (("brought", 0, 12), ("brought", 0, 6), ("made", 0, 14, (0, 1)))
        self.assertIs(self.holds(("rows", other)), True)
        self.assertIs(self.holds(("rows", (("brought", 0, 3),) + other[:2] + (("made", 0, 14, (1, 2)),))), True)

    def test_moved_by_rounds(self):
        for moments in (3, 6, 300, -3, -6):
            paper = moved(self.paper, moments)
            self.assertIs(self.holds(("rows", paper), origin=11 + moments), True)
            self.assertIs(self.holds(("rows", paper)), False)
        self.assertIs(self.holds(("rows", moved(self.paper, -12)), origin=-1), False)
        self.assertIs(self.holds(("rows", moved(self.paper, 1)), origin=12), False)
        self.assertIs(self.holds(("rows", moved(self.paper, LAST - 3)), origin=LAST + 8), False)

    def test_papers_that_show_another_thing(self):
        self.assertIs(self.holds(("rows", self.paper), age=3), False)
        self.assertIs(self.holds(("rows", self.paper), age=5), True)
        self.assertIs(self.holds(("rows", self.paper), origin=8), False)
        self.assertIs(self.holds(("rows", self.paper), origin=14), False)
        self.assertIs(self.holds(("rows", self.paper), kind="ale"), False)
        self.assertIs(self.holds(("rows", self.paper[:2])), False)
        self.assertIs(self.holds(("rows", self.paper + self.paper[:1])), False)

    def test_tables_that_have_it(self):
        for told in (table(WORLD), fullest_table(WORLD)):
            self.assertIs(self.holds(("never", told)), False)
        self.assertIs(self.holds(("never", table(WORLD)), age=3), True)
        self.assertIs(self.holds(("never", fullest_table(WORLD)), age=3), False)

    def test_any_shut_table_that_hasnt_it(self):
        dice = random.Random(133)
        seen = set()
        for attempt in range(40):
            told = shut_by(WORLD, leak, random_table(dice, WORLD))
            for origin in range(-1, 30, 2):
                wanted = not has(WORLD, told, "bun", origin, 12)
                seen.add(wanted)
                self.assertIs(self.holds(("never", told), origin=origin, age=12), wanted)
        self.assertEqual(seen, {True, False})

    def test_tables_that_are_not_shut(self):
        least = table(WORLD)
        self.assertIs(self.holds(("never", empty_table(WORLD))), False)
        self.assertIs(self.holds(("never", empty_table(WORLD)), age=3), False)
        for path in paths(least):
            if len(path) == 3 and found(least, path) is not None:
                self.assertIs(self.holds(("never", replaced(least, path, None)), age=3), False)
        # Bun taken out: it hasn't the thing, but it leaks.
        self.assertIs(self.holds(("never", replaced(least, (1,), empty_table(WORLD)[1]))), False)

    def test_other_things(self):
        least = table(WORLD)
        for thing in ODD + ODD_TUPLES + (
                self.paper, least, ("rows",), ("never",), ("rows", self.paper, None), ("never", least, 0), ("rows", least),
                ("never", self.paper), ("Rows", self.paper), ("row", self.paper), (None, least), (self.paper, "rows"),
                ["rows", self.paper], {"rows": self.paper}, ("rows", list(self.paper)), ("never", list(least)),
                ("never", None), ("rows", None), ("rows", ()), (["rows"], self.paper), ("rows", HUGE), (True, self.paper)):
            for age in (3, 4):
                self.assertIs(self.holds(thing, age=age), False, thing)

    def test_each_part_otherwise(self):
        told = verdict(WORLD, "bun", 11, 4)
        for path in paths(told):
            for new in ODD + ODD_TUPLES:
                self.assertIs(self.holds(replaced(told, path, new)), False)
            if isinstance(found(told, path), tuple):
                self.assertIs(self.holds(replaced(told, path, list(found(told, path)))), False)

    def test_a_world_of_nothing(self):
        self.assertEqual(verdict(SMALLEST, "a", 0, FAR), ("never", empty_table(SMALLEST)))
        self.assertIs(verdict_holds(SMALLEST, "a", 0, FAR, ("never", empty_table(SMALLEST))), True)


class TestAsked(unittest.TestCase):
    def test_nothing_is_changed_and_the_same_is_told(self):
        for world in (WORLD, PLAIN, SLOW[0]):
            ahead = copy.deepcopy(world)
            for kind in world[1]:
                told = verdict(world, kind, 50, READY)
                self.assertEqual(told, verdict(world, kind, 50, READY))
                thing = [told[0], [list(row) for row in told[1]]]
                aside = copy.deepcopy(thing)
                self.assertFalse(verdict_holds(world, kind, 50, READY, thing))
                self.assertEqual(thing, aside)
            self.assertEqual(world, ahead)

    def test_papers_are_tuples_without_needless_rows(self):
        for world in SLOW:
            for kind in world[1]:
                for origin in range(200, 200 + world[0]):
                    word, proof = verdict(world, kind, origin, READY)
                    if word == "rows":
                        self.assertIsNone(paperfault(world, proof))
                        self.assertEqual(trimmed(proof), proof)
                        self.assertTrue(all(isinstance(row, tuple) for row in proof))

    def test_defined_here(self):
        for one in (verdict, verdict_holds):
            self.assertEqual(one.__module__, "rightage.verdicts")


if __name__ == "__main__":
    unittest.main()
