"""[17] wish_verdict and wish_holds."""

import copy
import random
import unittest

from rightage.bounds import FAR, ITEMS, LATE, OLD, READY
from rightage.leaks import is_shut, leak
from rightage.least import table
from rightage.papers import moved, paperfault, things
from rightage.wishes import comes, first_wish, wish_holds, wish_verdict
from tests.byhand import SLOW, greatest_world, shut_by, small_world, table_has
from tests.samples import (
    HUGE, LARGEST, ODD, ODD_TUPLES, PLAIN, SMALLEST, empty_table, found, fullest_table, paths, random_table, replaced)
from tests.test_wishes import random_wish

# Ale comes at 2, 5, 8, .. one old: of 1, 4, 7; bun is made at 4, 7, .. of ale three old, born two on.
WORLD = (3, ("ale", "bun"), (("ale", 1, 2, 0, 1),), (("bun", (("ale", 3, 3),), "oldest", (1,), 2),))
WISH = (("bun", 5, 8), ("ale", 1, 4), ("ale", 4, 6))
# At 8: bun of 1 is seven old, ale of 7 one old, ale of 4 four old.
PAPER = (("brought", 0, 2), ("brought", 0, 8), ("made", 0, 4, (0,)), ("brought", 0, 5))
THERE = ("there", PAPER, (2, 1, 3))


class TestVerdict(unittest.TestCase):
    def check(self, world, wish, moment):
        told = wish_verdict(world, wish, moment)
        wanted = comes(world, wish, moment)
        self.assertIs(wish_holds(world, wish, moment, told), True)
        if wanted:
            word, paper, numbers = told
            self.assertEqual(word, "there")
            self.assertIsNone(paperfault(world, paper))
            self.assertEqual(len(numbers), len(wish))
            for (kind, least, greatest), number in zip(wish, numbers):
                self.assertIn(number, range(len(paper)))
                own, origin, born = things(world, paper)[number]
                self.assertEqual(own, kind)
                self.assertLessEqual(born, moment)
                self.assertIn(moment - origin, range(least, greatest + 1))
        else:
            self.assertEqual(told[0], "never")
            self.assertEqual(len(told), 2)
            self.assertTrue(is_shut(world, told[1]))
        self.assertIs(wish_holds(world, wish, moment, ("never", table(world))), not wanted)
        return wanted

    def test_by_hand(self):
        told = [self.check(WORLD, WISH, moment) for moment in range(12)]
        # From 6 on, when the first bun is born, ale of each age that is wanted is there.
        self.assertEqual(told, [False] * 6 + [True] * 6)
        self.assertIs(wish_holds(WORLD, WISH, 8, THERE), True)

    def test_one_thing_for_several_items(self):
        word, paper, numbers = wish_verdict(WORLD, (("ale", 1, 1), ("ale", 0, 4), ("ale", 1, 1)), 2)
        self.assertEqual((paper, numbers), ((("brought", 0, 2),), (0, 0, 0)))

    def test_near(self):
        dice = random.Random(171)
        seen = []
        for attempt in range(60):
            world = small_world(dice)
            wish = random_wish(dice, world[1])
            first = first_wish(world, wish)
            moments = [0, 1, 5, dice.randint(0, 100)]
            if first is not None:
                moments += [first, max(0, first - 1), first + 1, first + world[0]]
            seen += [self.check(world, wish, moment) for moment in moments]
        self.assertGreater(seen.count(True), 50)
        self.assertGreater(seen.count(False), 50)

    def test_far(self):
        dice = random.Random(172)
        worlds = list(SLOW) + [PLAIN, LARGEST, SMALLEST, WORLD] + [greatest_world(dice) for k in range(2)]
        seen = []
        for world in worlds + [small_world(dice) for k in range(30)]:
            for step in range(2):
                wish = random_wish(dice, world[1])[:dice.randint(1, ITEMS)]
                seen += [self.check(world, wish, FAR - step) for step in range(world[0])]
        self.assertGreater(seen.count(True), 20)
        self.assertGreater(seen.count(False), 20)

    def test_old_things(self):
        for age in (READY, READY + 1, LATE):
            self.assertTrue(self.check(WORLD, (("bun", age, age), ("ale", age, age)), 1 + age))
            self.assertFalse(self.check(WORLD, (("bun", age, age),), age))
            self.assertFalse(self.check(WORLD, (("bun", age, age),), age - 2))

    def test_rows_are_tuples(self):
        for path in paths(wish_verdict(WORLD, WISH, 8)):
            self.assertIsInstance(found(wish_verdict(WORLD, WISH, 8), path), (tuple, int, str))


class TestThere(unittest.TestCase):
    def holds(self, thing, moment=8, wish=WISH):
        return wish_holds(WORLD, wish, moment, thing)

    def test_another_word(self):
        for word in ODD + ("never", "There", "rows", "there "):
            self.assertIs(self.holds((word,) + THERE[1:]), False)

    def test_item_numbers(self):
        for numbers in ((2, 1), (2, 1, 3, 3), (), (2,), [2, 1, 3], None, 2, {"0": 2}, (2, 1, 4), (2, 1, -1), (2, -3, 3),
                        (-2, 1, 3), (2, True, 3), (2, 1, None), (2, 1, "3"), (2, (1,), 3), (2, 1, HUGE), (2, 1, [3])):
            self.assertIs(self.holds(("there", PAPER, numbers)), False, numbers)

    def test_things_that_do_not_do(self):
        # A wrong kind, and a wrong age; ale of 4 is four old, so that it does for both items.
        self.assertIs(self.holds(("there", PAPER, (2, 3, 3))), True)
        for numbers in ((0, 1, 3), (1, 1, 3), (2, 2, 3), (2, 1, 2), (2, 1, 1), (2, 0, 3), (2, 1, 0), (3, 1, 2)):
            self.assertIs(self.holds(("there", PAPER, numbers)), False, numbers)

    def test_true_is_no_number(self):
        wish = (("ale", 1, 9), ("ale", 1, 9))
        self.assertIs(self.holds(("there", PAPER, (0, 1)), wish=wish), True)
        for numbers in ((0, True), (False, 1), (False, True)):
            self.assertIs(self.holds(("there", PAPER, numbers), wish=wish), False)

    def test_other_moments(self):
        told = [moment for moment in range(20) if self.holds(THERE, moment)]
        self.assertEqual(told, [8, 9])
        # Bun of 1 is five old at 6, when it is born, and would be four old at 5.
        wish = (("bun", 0, 8),)
        told = [moment for moment in range(20) if self.holds(("there", PAPER, (2,)), moment, wish)]
        self.assertEqual(told, [6, 7, 8, 9])

    def test_ages_at_both_ends(self):
        for least, greatest, wanted in ((7, 7, True), (0, 7, True), (7, 60, True), (8, 60, False), (0, 6, False)):
            self.assertIs(self.holds(("there", PAPER, (2,)), 8, (("bun", least, greatest),)), wanted)

    def test_a_row_otherwise(self):
        for path in paths(PAPER):
            for new in ODD + ODD_TUPLES + (7, 9, "ale"):
                self.assertIs(self.holds(("there", replaced(PAPER, path, new), (2, 1, 3))), False, (path, new))
            if isinstance(found(PAPER, path), tuple):
                other = replaced(PAPER, path, list(found(PAPER, path)))
                self.assertIs(self.holds(("there", other, (2, 1, 3))), False)

    def test_a_fault_in_a_row_that_no_item_needs(self):
        self.assertIs(self.holds(("there", PAPER + (("brought", 0, 5),), (2, 1, 3))), True)
        self.assertIs(self.holds(("there", PAPER + (("brought", 0, 6),), (2, 1, 3))), False)
        self.assertIs(self.holds(("there", PAPER + (None,), (2, 1, 3))), False)

    def test_a_row_born_later_that_no_item_needs(self):
        self.assertIs(self.holds(("there", PAPER + (("brought", 0, 200),), (2, 1, 3))), True)

    def test_moved_by_rounds(self):
        for rounds in (1, 5, (FAR - 8) // 3):
            paper = moved(PAPER, 3 * rounds)
            self.assertIs(self.holds(("there", paper, (2, 1, 3)), 8 + 3 * rounds), True)
            self.assertIs(self.holds(("there", paper, (2, 1, 3)), 8), False)
        self.assertIs(self.holds(("there", moved(PAPER, -3), (2, 1, 3)), 5), False)

    def test_other_forms(self):
        for thing in ODD + ODD_TUPLES + (PAPER, ("there",), ("there", PAPER), THERE + (None,), list(THERE), THERE[::-1],
                                         ("there", (2, 1, 3), PAPER), {"there": THERE}, ("there", (), (0, 0, 0)),
                                         ("there", list(PAPER), (2, 1, 3)), 3):
            self.assertIs(self.holds(thing), False, thing)


class TestNever(unittest.TestCase):
    wish = (("bun", 5, 6), ("ale", 1, 1))

    def holds(self, thing, moment=8, wish=wish):
        return wish_holds(WORLD, wish, moment, thing)

    def test_the_least_table(self):
        self.assertIs(self.holds(("never", table(WORLD))), True)
        self.assertIs(self.holds(("never", table(WORLD)), 8, WISH), False)
        self.assertIs(self.holds(("never", table(WORLD)), 5, WISH), True)

    def test_a_table_by_which_such_a_thing_is_there_for_each_item(self):
        self.assertIs(self.holds(("never", fullest_table(WORLD))), False)
        # By this one bun new at all places is there, ale as in the least one.
        other = (table(WORLD)[0], fullest_table(WORLD)[1])
        self.assertTrue(is_shut(WORLD, other))
        self.assertIs(self.holds(("never", other)), False)
        self.assertIs(self.holds(("never", other), 7), True)

    def test_any_shut_table(self):
        dice = random.Random(173)
        seen = set()
        for attempt in range(60):
            world = small_world(dice)
            told = shut_by(world, leak, random_table(dice, world))
            wish = random_wish(dice, world[1])
            for moment in (0, 9, 40, FAR):
                there = all(
                    any(table_has(world, told, kind, moment - age, age) for age in range(least, greatest + 1))
                    for kind, least, greatest in wish)
                self.assertIs(wish_holds(world, wish, moment, ("never", told)), not there)
                seen.add(there)
        self.assertEqual(seen, {True, False})

    def test_tables_that_are_not_shut(self):
        self.assertIs(self.holds(("never", empty_table(WORLD))), False)
        least = table(WORLD)
        for path in paths(least):
            if len(path) == 3 and found(least, path) is not None:
                self.assertIs(self.holds(("never", replaced(least, path, None))), False)
                self.assertIs(self.holds(("never", replaced(least, path, found(least, path) + 3))), False)
            elif len(path) < 3:
                self.assertIs(self.holds(("never", replaced(least, path, list(found(least, path))))), False)

    def test_other_forms(self):
        least = table(WORLD)
        for thing in ODD + ODD_TUPLES + (
                least, ("never",), ("never", least, ()), ("Never", least), ("there", least), ("never", None), ("never", PAPER),
                ["never", least], {"never": least}, (least, "never"), ("never", list(least)), ("never", least, (0, 0)), -OLD):
            self.assertIs(self.holds(thing), False, thing)

    def test_a_world_of_nothing(self):
        self.assertEqual(wish_verdict(SMALLEST, (("a", 0, 60),), 9), ("never", empty_table(SMALLEST)))
        self.assertIs(wish_holds(SMALLEST, (("a", 0, 60),), 9, ("never", empty_table(SMALLEST))), True)


class TestAsked(unittest.TestCase):
    def test_nothing_is_changed_and_the_same_is_told(self):
        ahead = copy.deepcopy((WORLD, WISH))
        for moment in (5, 8):
            self.assertEqual(wish_verdict(WORLD, WISH, moment), wish_verdict(WORLD, WISH, moment))
        thing = ["there", [list(row) for row in PAPER], [2, 1, 3]]
        aside = copy.deepcopy(thing)
        self.assertIs(wish_holds(WORLD, WISH, 8, thing), False)
        self.assertIs(wish_holds(WORLD, WISH, 8, ("there", thing[1], thing[2])), False)
        self.assertEqual((WORLD, WISH), ahead)
        self.assertEqual(thing, aside)


if __name__ == "__main__":
    unittest.main()
