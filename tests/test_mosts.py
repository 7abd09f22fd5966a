"""[23]-[26] and [2], what concerns most."""

import copy
import random
import unittest
from fractions import Fraction

from rightage.bounds import SPENT
from rightage.errors import BadWish, NotNarrow
from rightage.mosts import most
from rightage.steady import is_narrow, steady_holds
from rightage.wishes import ages_there
from rightage.worlds import worldfault
from tests.byprice import (
    KINDS, greatest_narrow, has_price_form, is_kept_up, is_price_list, is_steady, narrow_world, random_want, worth,
    yielded)
from tests.samples import HUGE, LARGEST, ODD, ODD_TUPLES, PLAIN, SMALLEST, replaced


class MostCase(unittest.TestCase):
    def told(self, world, want):
        """The number that most tells, its row and its prices gone through."""
        self.assertIsNone(worldfault(world))
        self.assertTrue(is_narrow(world))
        told = most(world, want)
        self.assertIs(type(told), tuple)
        number, steady, prices = told
        self.assertTrue(is_steady(world, want, steady), steady)
        self.assertTrue(is_kept_up(world, want, steady), steady)
        self.assertTrue(has_price_form(world, prices))
        self.assertTrue(is_price_list(world, want, prices), prices)
        sum_taken, sum_paid = Fraction(yielded(steady)), worth(world, prices)
        self.assertEqual(sum_taken, sum_paid)
        self.assertEqual(number, (sum_paid.numerator, sum_paid.denominator))
        self.assertEqual([type(part) for part in number], [int, int])
        self.assertIs(steady_holds(world, want, number, steady), True)
        return number


class TestByHand(MostCase):
    def test_no_sources(self):
        ways = (("ale", (("ale", 0, 5), ("ale", 0, 5)), "youngest", (0, 1), 1), ("ale", (("ale", 0, 5),), "oldest", (0,), 2))
        for world in (SMALLEST, (2, ("a",), (), ()), (2, ("ale", "bun"), (), ways)):
            for kind in world[1]:
                for least, greatest in ((0, 7), (0, 0), (7, 7)):
                    self.assertEqual(self.told(world, (kind, least, greatest)), (0, 1))
                    self.assertEqual(most(world, (kind, least, greatest))[1], ())

    def test_no_ways(self):
        world = (2, ("ale", "bun"), (("ale", 3, 0, 0, 4), ("ale", 0, 1, 9, 9), ("ale", 5, 1, 0, 1)), ())
        for (least, greatest), number in (
                ((0, 0), 9), ((0, 2), 9), ((1, 1), 9), ((3, 3), 13), ((0, 4), 13), ((5, 5), 14), ((0, 7), 14), ((7, 7), 14)):
            self.assertEqual(self.told(world, ("ale", least, greatest)), (number, 1))
        self.assertEqual(self.told(world, ("bun", 0, 7)), (0, 1))

    def test_one_of_two(self):
        # Each bun takes two ales; with an odd ale left a half is made of it.
        world = (1, ("ale", "bun"), (("ale", 0, 0, 0, 7),), (("bun", (("ale", 1, 2), ("ale", 1, 2)), "oldest", (0,), 1),))
        self.assertEqual(self.told(world, ("bun", 0, 7)), (7, 2))
        self.assertEqual(self.told(world, ("bun", 2, 2)), (7, 2))
        self.assertEqual(self.told(world, ("bun", 0, 1)), (0, 1))
        self.assertEqual(self.told(world, ("ale", 0, 7)), (7, 1))

    def test_the_rarer_part(self):
        world = (1, KINDS, (("ale", 0, 0, 0, 9), ("bun", 0, 0, 0, 2)), (
            ("cod", (("ale", 0, 5), ("bun", 0, 5)), "oldest", (0,), 1),))
        self.assertEqual(self.told(world, ("cod", 0, 7)), (2, 1))
        # At ages that never meet nothing can be made.
        world = replaced(replaced(world, (3, 0, 1, 0), ("ale", 2, 2)), (3, 0, 1, 1), ("bun", 1, 1))
        self.assertEqual(self.told(world, ("cod", 3, 3)), (2, 1))
        self.assertEqual(self.told(world, ("cod", 0, 2)), (0, 1))
        barred = replaced(replaced(world, (0,), 2), (3, 0, 3), (1,))
        # Ale is odd at odd moments.
        self.assertEqual(self.told(barred, ("cod", 0, 7)), (0, 1))
        self.assertEqual(self.told(replaced(barred, (3, 0, 1, 0, 2), 3), ("cod", 0, 7)), (2, 1))

    def test_ways_that_feed_each_other(self):
        # Three ales to a bun, by way of a cod of two.
        world = (1, KINDS, (("ale", 0, 0, 0, 8),), (
            ("cod", (("ale", 0, 5), ("ale", 0, 5)), "oldest", (0,), 1), ("bun", (("cod", 0, 5), ("ale", 0, 5)), "oldest", (0,), 1)))
        self.assertEqual(self.told(world, ("bun", 0, 7)), (8, 3))
        # And cods of buns, too: of no use.
        fed = replaced(world, (3,), world[3] + (("cod", (("bun", 0, 5),), "oldest", (0,), 1),))
        self.assertEqual(self.told(fed, ("bun", 0, 7)), (8, 3))
        self.assertEqual(self.told(fed, ("cod", 0, 7)), (4, 1))
        self.assertEqual(self.told(fed, ("cod", 3, 7)), (4, 1))
        self.assertEqual(self.told(fed, ("cod", 1, 1)), (4, 1))
        self.assertEqual(self.told(fed, ("cod", 0, 0)), (0, 1))

    def test_ways_that_feed_themselves(self):
        # An old bun with a young ale is a young bun again; from the beginning one old one is brought a round.
        world = (1, ("ale", "bun"), (("ale", 0, 0, 0, 3), ("bun", 5, 0, 0, 1)), (
            ("bun", (("bun", 2, 5), ("ale", 0, 0)), "youngest", (0,), 2),))
        self.assertEqual(self.told(world, ("bun", 2, 2)), (1, 1))
        self.assertEqual(self.told(world, ("bun", 0, 7)), (1, 1))
        self.assertEqual(self.told(world, ("bun", 0, 1)), (0, 1))
        # Made of two of itself, there are ever fewer.
        world = (1, ("ale",), (("ale", 0, 0, 0, 8),), (("ale", (("ale", 5, 5), ("ale", 0, 5)), "youngest", (0,), 1),))
        self.assertEqual(self.told(world, ("ale", 0, 7)), (8, 1))
        self.assertEqual(self.told(world, ("ale", 0, 0)), (8, 1))

    def test_sources_that_begin_late(self):
        dice = random.Random(261)
        for k in range(30):
            world = narrow_world(dice)
            want = random_want(dice, world)
            early = replaced(world, (2,), tuple(row[:3] + (0,) + row[4:] for row in world[2]))
            late = replaced(world, (2,), tuple(row[:3] + (10 ** 6,) + row[4:] for row in world[2]))
            number = self.told(world, want)
            self.assertEqual(self.told(early, want), number)
            self.assertEqual(self.told(late, want), number)

    def test_one_age_and_all_ages(self):
        world = (1, ("ale", "bun"), (("ale", 0, 0, 0, 4), ("ale", 4, 0, 0, 2)), (("bun", (("ale", 2, 5),), "oldest", (0,), 2),))
        for (least, greatest), number in (((0, 3), 0), ((4, 4), 4), ((5, 5), 4), ((6, 6), 6), ((0, 7), 6), ((7, 7), 6), ((4, 5), 4)):
            self.assertEqual(self.told(world, ("bun", least, greatest)), (number, 1))

    def test_oldest_and_youngest_of_unlike_places(self):
        # At odd moments ales are 1, 3, 5 old and buns 0, 2, 4.
        parts = (("ale", 1, 5), ("bun", 0, 4))
        for keeps in ("oldest", "youngest"):
            world = (2, KINDS, (("ale", 0, 0, 0, 3), ("bun", 0, 1, 0, 5)), (("cod", parts, keeps, (1,), 1),))
            numbers = [self.told(world, ("cod", age, age)) for age in range(8)]
            first = 2 if keeps == "oldest" else 1
            self.assertEqual(numbers, [(0, 1)] * first + [(3, 1)] * (8 - first))
            # Nothing is both one old and nought.
            self.assertEqual(self.told(replaced(world, (3, 0, 3), (0,)), ("cod", 0, 2)), (0, 1) if keeps == "oldest" else (3, 1))

    def test_takes_at_each_place(self):
        # Ales come at both places; both can be taken one old.
        world = (2, ("ale",), (("ale", 0, 0, 0, 3), ("ale", 1, 0, 0, 4), ("ale", 1, 1, 0, 2)), ())
        self.assertEqual(self.told(world, ("ale", 1, 1)), (9, 1))
        self.assertEqual(self.told(world, ("ale", 0, 0)), (3, 1))

    def test_a_choice_between_ways(self):
        # A bun of two ales, or of one ale and one of three cods.
        world = (1, KINDS, (("ale", 0, 0, 0, 9), ("cod", 0, 0, 0, 3)), (
            ("bun", (("ale", 0, 5), ("ale", 0, 5)), "oldest", (0,), 1), ("bun", (("ale", 0, 5), ("cod", 0, 5)), "oldest", (0,), 1)))
        self.assertEqual(self.told(world, ("bun", 0, 7)), (6, 1))
        self.assertEqual(self.told(replaced(world, (2, 0, 4), 8), ("bun", 0, 7)), (11, 2))

    def test_ages_that_are_hard_to_come_by(self):
        # Only what is made of an old one and a new one is wanted; half of the ales must wait.
        world = (1, ("ale", "bun"), (("ale", 0, 0, 0, 5),), (("bun", (("ale", 5, 5), ("ale", 0, 1)), "youngest", (0,), 1),))
        self.assertEqual(self.told(world, ("bun", 1, 1)), (5, 2))
        self.assertEqual(self.told(world, ("bun", 0, 0)), (0, 1))
        # Thrice made: at each stage with one more of the same.
        world = (1, KINDS, (("ale", 0, 0, 0, 9),), (
            ("bun", (("ale", 0, 0), ("ale", 0, 0)), "oldest", (0,), 1), ("cod", (("bun", 1, 1), ("bun", 1, 1)), "oldest", (0,), 1),
            ("ale", (("cod", 2, 2), ("bun", 2, 2)), "oldest", (0,), 1)))
        self.assertEqual(self.told(world, ("cod", 0, 7)), (9, 4))
        self.assertEqual(self.told(world, ("bun", 0, 7)), (9, 2))


class TestMany(MostCase):
    def test_random(self):
        dice = random.Random(262)
        belows = set()
        for k in range(400):
            world = narrow_world(dice)
            belows.add(self.told(world, random_want(dice, world))[1])
        self.assertLessEqual({1, 2}, belows)

    def test_nought_just_where_none_ever_has_the_age(self):
        dice = random.Random(263)
        noughts = 0
        for k in range(200):
            world = narrow_world(dice)
            want = random_want(dice, world)
            ages = [age for place in range(world[0]) for age in ages_there(world, want[0], place)]
            comes = any(want[1] <= age <= want[2] for age in ages)
            self.assertEqual(self.told(world, want) != (0, 1), comes)
            noughts += not comes
        self.assertGreater(noughts, 30)

    def test_at_every_bound_at_once(self):
        dice = random.Random(264)
        belows = set()
        for k in range(25):
            world = greatest_narrow(dice)
            belows.add(self.told(world, (dice.choice(KINDS), 0, SPENT))[1])
            belows.add(self.told(world, random_want(dice, world))[1])
        self.assertLessEqual({1, 2}, belows)

    def test_one_world_at_every_bound(self):
        # Each kind of each two; all ages, all hours.
        ways = tuple((KINDS[k % 3], ((KINDS[k // 3], 0, 5), (KINDS[(k + k // 3) % 3], 0, 5)), ("oldest", "youngest")[k % 2], (0, 1), 2)
                     for k in range(8))
        sources = tuple((KINDS[k % 3], 5 * (k // 3), k % 2, 10 ** 6, 9) for k in range(6))
        for kind in KINDS:
            for age in range(SPENT + 1):
                self.told((2, KINDS, sources, ways), (kind, age, age))

    def test_more_of_it(self):
        # So many times as much comes: so many times as much can be had.
        dice = random.Random(265)
        for k in range(40):
            world = narrow_world(dice)
            world = replaced(world, (2,), tuple(row[:4] + (1 + row[4] % 3,) for row in world[2]))
            want = random_want(dice, world)
            more = replaced(world, (2,), tuple(row[:4] + (3 * row[4],) for row in world[2]))
            self.assertEqual(Fraction(*self.told(more, want)), 3 * Fraction(*self.told(world, want)))


class TestRefused(unittest.TestCase):
    def test_not_narrow_ahead_of_bad_wish(self):
        narrow = greatest_narrow(random.Random(266))
        for world in (PLAIN, LARGEST, replaced(narrow, (0,), 3), replaced(narrow, (1,), KINDS + ("dip",)),
                      replaced(narrow, (2, 5, 1), 6), replaced(narrow, (3, 7, 4), 3), replaced(narrow, (3, 7, 1, 1, 2), 6),
                      replaced(narrow, (3, 7, 1), (("ale", 0, 0),) * 3)):
            self.assertIsNone(worldfault(world))
            for want in ODD + ODD_TUPLES + (("ale", 0, 1), ("dip", 0, 9)):
                with self.assertRaises(NotNarrow):
                    most(world, want)

    def test_bad_wish(self):
        world = (1, ("ale", "bun"), (("ale", 0, 0, 0, 1),), ())

        def refused(want, word):
            with self.assertRaises(BadWish) as caught:
                most(world, want)
            self.assertEqual((caught.exception.item, caught.exception.word), (0, word))
        for want in ODD + ODD_TUPLES + (("ale", 0), ("ale", 0, 1, 2), ["ale", 0, 1], (("ale", 0, 1),), "ale"):
            refused(want, "item")
        for kind in ("cod", "", None, True, 0, ["ale"], ("ale",), {}):
            refused((kind, -1, -1), "kind")
        for least in (-1, SPENT + 1, True, False, None, "0", (0,), HUGE):
            refused(("ale", least, -1), "least")
        for greatest in (1, -1, SPENT + 1, True, None, "7", [7], HUGE):
            refused(("bun", 2, greatest), "greatest")
        refused(("bun", 0, False), "greatest")


class TestAll(unittest.TestCase):
    def test_the_same_answer_and_nothing_changed(self):
        dice = random.Random(267)
        for k in range(20):
            world = narrow_world(dice)
            want = random_want(dice, world)
            kept = copy.deepcopy((world, want))
            first = most(world, want)
            self.assertEqual(most(world, want), first)
            self.assertEqual((world, want), kept)


if __name__ == "__main__":
    unittest.main()
