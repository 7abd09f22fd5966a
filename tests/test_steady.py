"""[23] is_narrow and wants, [24] steady rows, [26] steady_holds, yields and times."""

import copy
import fractions
import random
import unittest

from rightage.bounds import SPENT
from rightage.errors import BadWish, NotNarrow
from rightage.steady import is_narrow, steady_holds, times, yields
from rightage.values import common_divisor, common_multiple, fraction, is_fraction
from rightage.worlds import worldfault
from tests.samples import HUGE, LARGEST, ODD, ODD_TUPLES, PLAIN, SMALLEST, found, paths, replaced

NARROW = (
    2, ("ale", "bun", "cod"),
    (("ale", 5, 1, 0, 9), ("bun", 0, 0, 0, 1)),
    (("cod", (("ale", 0, 5), ("bun", 5, 5)), "oldest", (0, 1), 2), ("bun", (("cod", 0, 5),), "youngest", (1,), 1)))

# A round of 1: ale comes new, four a round; bun is made of one ale from 1 to 3 old, one moment on;
# cod of an ale up to 2 old and a bun from 2 to 4 old, the oldest, two on, or the youngest, one on.
WORLD = (
    1, ("ale", "bun", "cod"),
    (("ale", 0, 0, 0, 4),),
    (
        ("bun", (("ale", 1, 3),), "oldest", (0,), 1),
        ("cod", (("ale", 0, 2), ("bun", 2, 4)), "oldest", (0,), 2),
        ("cod", (("ale", 0, 2), ("bun", 2, 4)), "youngest", (0,), 1),
    ),
)
COD = ("cod", 0, 7)
# Two buns two old when born, with ale one old: cod of the bun's origin, at 2 + 2.
ROW = (
    ("make", 0, 0, (1,), (2, 1)),
    ("make", 1, 0, (1, 2), (2, 1)),
    ("take", 0, 4, (1, 2)),
    ("take", 0, 6, (3, 2)),
)


def holds(*rows, world=WORLD, want=COD, number=None):
    told = steady_holds(world, want, yields(rows) if number is None else number, rows)
    assert told is True or told is False
    return told


class TestNarrow(unittest.TestCase):
    def test_at_each_bound(self):
        self.assertIsNone(worldfault(NARROW))
        self.assertIs(is_narrow(NARROW), True)
        self.assertIs(is_narrow(SMALLEST), True)
        self.assertIs(is_narrow((2, ("a",), (), ())), True)

    def test_the_first_beyond_each_bound(self):
        for path, new in (
                ((0,), 3), ((1,), ("ale", "bun", "cod", "dip")), ((2, 0, 1), 6), ((2, 1, 1), 6), ((3, 0, 4), 3), ((3, 1, 4), 3),
                ((3, 0, 1, 0, 2), 6), ((3, 0, 1, 1, 2), 6), ((3, 1, 1, 0, 2), 6), ((3, 0, 1), (("ale", 0, 5),) * 3),
                ((3, 1, 1), (("ale", 0, 0),) * 3)):
            world = replaced(NARROW, path, new)
            self.assertIsNone(worldfault(world), path)
            self.assertIs(is_narrow(world), False, path)
        for span in (3, 4, 5, 6):
            self.assertIs(is_narrow((span, ("a",), (), ())), False)
        self.assertIs(is_narrow(LARGEST), False)
        self.assertIs(is_narrow(PLAIN), False)

    def test_what_doesnt_matter(self):
        for path, new in (((2, 0, 3), 10 ** 6), ((2, 0, 4), 1), ((3, 0, 3), ()), ((2,), NARROW[2] * 3), ((3,), NARROW[3] * 4)):
            world = replaced(NARROW, path, new)
            self.assertIsNone(worldfault(world))
            self.assertIs(is_narrow(world), True)


class TestRefused(unittest.TestCase):
    def test_not_narrow_ahead_of_all(self):
        for world in (PLAIN, LARGEST, (3, ("cod",), (), ())):
            for want in ODD + (COD, ("jam", 0, 1)):
                with self.assertRaises(NotNarrow):
                    steady_holds(world, want, (0, 1), ())

    def refused(self, want, word):
        for thing in ((), None, ROW):
            with self.assertRaises(BadWish) as caught:
                steady_holds(WORLD, want, (0, 1), thing)
            self.assertEqual((caught.exception.item, caught.exception.word), (0, word))

    def test_bad_wish(self):
        for want in ODD + ((), (COD,), ("cod", 0), ("cod", 0, 1, 2), list(COD), (COD, COD)):
            self.refused(want, "item")
        for kind in ("co", "", None, True, 0, ["cod"], ("cod",), {}, "dip"):
            self.refused((kind, 0, 1), "kind")
        for least in (-1, SPENT + 1, True, False, None, "0", (0,), [0], HUGE):
            self.refused(("cod", least, 7), "least")
        for greatest in (1, 0, -1, SPENT + 1, 60, True, None, "7", (7,), [7], HUGE):
            self.refused(("cod", 2, greatest), "greatest")
        self.refused(("cod", 0, False), "greatest")
        self.refused(("cod", 1, True), "greatest")

    def test_two_faults(self):
        self.refused(("dip", -1, -2), "kind")
        self.refused(("cod", -1, -2), "least")
        self.refused(("cod", 8, 9), "least")

    def test_wants_at_the_bounds(self):
        self.assertEqual(SPENT, 7)
        for least, greatest in ((0, 0), (0, 7), (7, 7), (3, 4)):
            self.assertIs(steady_holds(WORLD, ("ale", least, greatest), (0, 1), ()), True)


class TestKeptUp(unittest.TestCase):
    def test_none(self):
        for world in (WORLD, NARROW, SMALLEST):
            want = (world[1][0], 0, 7)
            self.assertIs(steady_holds(world, want, (0, 1), ()), True)
            for number in ((1, 1), (-1, 1), (1, 7), (10 ** 29, 1)):
                self.assertIs(steady_holds(world, want, number, ()), False)

    def test_takes_alone(self):
        want = ("ale", 0, 7)
        for age in range(8):
            self.assertIs(holds(("take", 0, age, (4, 1)), want=want), True)
            self.assertIs(holds(("take", 0, age, (5, 1)), want=want), False)
            self.assertIs(holds(("take", 0, age, (401, 100)), want=want), False)
            self.assertIs(holds(("take", 0, age, (399, 100)), want=want), True)
        self.assertIs(holds(("take", 0, 0, (1, 3)), ("take", 0, 7, (11, 3)), want=want), True)
        self.assertIs(holds(("take", 0, 0, (1, 3)), ("take", 0, 7, (34, 9)), want=want), False)

    def test_takes_of_what_comes_old(self):
        world = (1, ("ale",), (("ale", 3, 0, 0, 2), ("ale", 5, 0, 0, 1)), ())
        for rows, wanted in (
                ((("take", 0, 3, (2, 1)),), True), ((("take", 0, 2, (1, 9)),), False), ((("take", 0, 0, (1, 9)),), False),
                ((("take", 0, 3, (3, 1)),), False), ((("take", 0, 4, (2, 1)),), True), ((("take", 0, 4, (3, 1)),), False),
                ((("take", 0, 5, (3, 1)),), True), ((("take", 0, 7, (3, 1)),), True), ((("take", 0, 7, (4, 1)),), False),
                ((("take", 0, 3, (2, 1)), ("take", 0, 5, (1, 1))), True),
                ((("take", 0, 3, (1, 1)), ("take", 0, 4, (1, 1)), ("take", 0, 6, (1, 1))), True),
                ((("take", 0, 3, (2, 1)), ("take", 0, 4, (1, 2)), ("take", 0, 6, (1, 2))), False)):
            self.assertIs(holds(*rows, world=world, want=("ale", 0, 7)), wanted, rows)

    def test_makes_that_feed_makes(self):
        self.assertIs(holds(*ROW), True)
        self.assertEqual(yields(ROW), (2, 1))
        # In any order.
        for turn in range(4):
            self.assertIs(holds(*(ROW[turn:] + ROW[:turn])), True)
        self.assertIs(holds(*ROW[::-1]), True)

    def test_just_kept_up_and_a_little_more(self):
        for number in range(4):
            above, below = ROW[number][-1]
            little = fraction(above * 1000 + below, below * 1000)
            less = fraction(above * 1000 - below, below * 1000)
            told = holds(*replaced(ROW, (number, len(ROW[number]) - 1), little))
            # All four ales, all buns and all cods are used.
            self.assertIs(told, False, number)
            # Less may be taken, but what is made is needed.
            self.assertIs(holds(*replaced(ROW, (number, len(ROW[number]) - 1), less)), number > 1, number)

    def test_what_is_used_younger_than_it_comes(self):
        # Bun made of an ale one old is born two old; of one two old three old.
        for age, part, wanted in ((1, 2, True), (2, 2, False), (2, 3, True), (3, 3, False), (3, 4, True), (1, 4, True)):
            rows = (("make", 0, 0, (age,), (1, 1)), ("make", 1, 0, (0, part), (1, 1)), ("take", 0, part + 2, (1, 1)))
            self.assertIs(holds(*rows), wanted, (age, part))

    def test_taken_younger_than_it_is_born(self):
        for age in range(8):
            self.assertIs(holds(*ROW[:2], ("take", 0, age, (1, 1))), age >= 4)

    def test_a_little_more_at_one_age_alone(self):
        # At ages up to 1 all four ales are used; more of them later on isn't there.
        rows = (("make", 0, 0, (1,), (3, 1)), ("make", 1, 0, (0, 2), (1, 1)))
        self.assertIs(holds(*rows), True)
        self.assertIs(holds(*rows, ("make", 0, 0, (3,), (1, 100))), False)
        # Buns: three come two old; two can be used three old.
        self.assertIs(holds(*rows, ("make", 2, 0, (0, 3), (1, 100))), False)
        rows = (("make", 0, 0, (1,), (2, 1)), ("make", 0, 0, (3,), (1, 1)), ("make", 1, 0, (0, 3), (1, 1)))
        self.assertIs(holds(*rows), True)
        world = replaced(WORLD, (2, 0, 4), 9)
        for first, second, wanted in (((2, 1), (1, 1), True), ((1, 1), (2, 1), True), ((3, 1), (1, 100), False),
                                      ((201, 100), (9, 10), False), ((2, 1), (101, 100), False), ((1, 100), (299, 100), True)):
            # Two buns come two old, one more four old; used at 3 and at 4.
            rows = (("make", 0, 0, (1,), (2, 1)), ("make", 0, 0, (3,), (1, 1)),
                    ("make", 1, 0, (0, 3), first), ("make", 2, 0, (0, 4), second))
            self.assertIs(holds(*rows, world=world), wanted, (first, second))

    def test_since_isnt_looked_at(self):
        world = replaced(WORLD, (2, 0, 3), 10 ** 6)
        self.assertIs(holds(*ROW, world=world), True)

    def test_many_tells_how_much(self):
        for many in range(1, 10):
            world = replaced(WORLD, (2, 0, 4), many)
            for wanted in range(1, 11):
                self.assertIs(holds(("take", 0, 2, (wanted, 1)), world=world, want=("ale", 0, 7)), wanted <= many)

    def test_one_thing_as_both_parts(self):
        world = (1, ("ale", "bun"), (("ale", 0, 0, 0, 3),), (("bun", (("ale", 1, 1), ("ale", 1, 2)), "oldest", (0,), 1),))
        want = ("bun", 0, 7)
        # Each making takes so much of each part, so twice of the same stuff.
        for share, wanted in (((3, 2), True), ((1, 1), True), ((151, 100), False), ((2, 1), False)):
            self.assertIs(holds(("make", 0, 0, (1, 1), share), ("take", 0, 2, share), world=world, want=want), wanted)
            self.assertIs(holds(("make", 0, 0, (1, 2), share), ("take", 0, 3, share), world=world, want=want), wanted)


class TestPlaces(unittest.TestCase):
    # Ale comes new at even moments, so of place 0; bun two old at odd ones, so of place 1.
    world = (
        2, ("ale", "bun", "cod"), (("ale", 0, 0, 0, 2), ("bun", 2, 1, 0, 2)),
        (("cod", (("ale", 0, 5), ("bun", 0, 5)), "oldest", (0, 1), 1), ("cod", (("ale", 0, 5), ("bun", 0, 5)), "youngest", (1,), 2)))

    def lets(self, *rows, want=COD):
        return holds(*rows, world=self.world, want=want)

    def test_takes_at_places(self):
        # Ale of place 0: at moments of place 0 it is 0, 2, 4 old, at those of place 1 it is 1, 3, 5 old.
        for place in (0, 1):
            for age in range(8):
                told = self.lets(("take", place, age, (2, 1)), want=("ale", 0, 7))
                self.assertIs(told, (place - age) % 2 == 0, (place, age))
                # Bun of place 1 comes two old.
                told = self.lets(("take", place, age, (2, 1)), want=("bun", 0, 7))
                self.assertIs(told, (place - age) % 2 == 1 and age >= 2, (place, age))

    def test_origins_of_the_oldest_and_of_the_youngest(self):
        # At a moment of place 1: ale three old (of place 0), bun two old (of place 1).
        # The oldest: cod of place 0, four old when it is born; the youngest: of place 1, two and two old.
        for way, born, place in ((0, 4, 0), (1, 4, 1)):
            for spot in (0, 1):
                for age in range(8):
                    rows = (("make", way, 1, (3, 2), (2, 1)), ("take", spot, age, (2, 1)))
                    wanted = age >= born and (spot - age) % 2 == place
                    self.assertIs(self.lets(*rows), wanted, (way, spot, age))

    def test_parts_of_places(self):
        for place in (0, 1):
            for first in range(6):
                for second in range(6):
                    told = self.lets(("make", 0, place, (first, second), (2, 1)))
                    wanted = (place - first) % 2 == 0 and (place - second) % 2 == 1 and second >= 2
                    self.assertIs(told, wanted, (place, first, second))

    def test_both_places_apart(self):
        world = (2, ("ale",), (("ale", 0, 0, 0, 2), ("ale", 0, 1, 0, 3)), ())
        for even, odd, wanted in ((2, 3, True), (3, 2, False), (2, 4, False), (1, 1, True)):
            rows = (("take", 0, 0, (even, 1)), ("take", 1, 0, (odd, 1)))
            self.assertIs(holds(*rows, world=world, want=("ale", 0, 7)), wanted)
        # At place 1 one moment old, of place 0.
        rows = (("take", 0, 0, (1, 1)), ("take", 1, 1, (1, 1)), ("take", 1, 0, (3, 1)))
        self.assertIs(holds(*rows, world=world, want=("ale", 0, 7)), True)
        self.assertIs(holds(*rows, ("take", 0, 2, (1, 9)), world=world, want=("ale", 0, 7)), False)


class TestForms(unittest.TestCase):
    def test_shares(self):
        for share in ((2, 2), (4, 2), (0, 1), (-1, 1), (1, 0), (1, -1), (0, 0), (-2, -1), (True, 1), (1, True), (1,), (1, 1, 1),
                      [1, 1], 1, None, "1", (1, None), ("1", 1), ((1,), 1), (False, 1), (6, 9), (HUGE * 2, HUGE)):
            self.assertIs(steady_holds(WORLD, ("ale", 0, 7), (1, 1), (("take", 0, 1, share),)), False, share)
            rows = (("make", 0, 0, (1,), share),)
            self.assertIs(steady_holds(WORLD, ("ale", 0, 7), (0, 1), rows), False, share)

    def test_shares_with_large_numbers(self):
        small = (1, 10 ** 29 + 9)
        self.assertIs(holds(("take", 0, 1, small), want=("ale", 0, 7)), True)
        self.assertIs(holds(("take", 0, 1, (4 * 10 ** 28 - 1, 10 ** 28)), want=("ale", 0, 7)), True)
        self.assertIs(holds(("take", 0, 1, (4 * 10 ** 28 + 1, 10 ** 28)), want=("ale", 0, 7)), False)

    def test_places_that_are_no_hours(self):
        world = replaced(TestPlaces.world, (3, 0, 3), (1,))
        for place in (0, -1, 2, 3, None, True, "1", (1,), [1]):
            rows = (("make", 0, place, (3, 2), (1, 1)),)
            self.assertIs(steady_holds(world, COD, (0, 1), rows), False, place)
        self.assertIs(holds(("make", 0, 1, (3, 2), (1, 1)), world=world), True)
        closed = replaced(world, (3, 0, 3), ())
        self.assertIs(holds(("make", 0, 1, (3, 2), (1, 1)), world=closed), False)
        for place in (-2, -1, 2, 3, None, True, False, "0", (0,), [0]):
            for age in (1, 2):
                rows = (("take", place, age, (1, 1)),)
                self.assertIs(steady_holds(world, ("ale", 0, 7), (1, 1), rows), False, place)

    def test_ages(self):
        for ages in ((0,), (4,), (), (1, 1), [1], 1, None, (True,), ("1",), (None,), ((1,),), (-1,), (HUGE,)):
            self.assertIs(steady_holds(WORLD, COD, (0, 1), (("make", 0, 0, ages, (1, 1)),)), False, ages)
        for age in (0, 1, 5, 6, -1, None, True, "3", (3,), [3]):
            self.assertIs(steady_holds(WORLD, ("ale", 2, 4), (1, 1), (("take", 0, age, (1, 1)),)), False, age)
        for age in (2, 3, 4):
            self.assertIs(steady_holds(WORLD, ("ale", 2, 4), (1, 1), (("take", 0, age, (1, 1)),)), True, age)
        self.assertIs(steady_holds(WORLD, ("ale", 0, 4), (1, 1), (("take", 0, True, (1, 1)),)), False)

    def test_ways(self):
        for way in (3, -1, -3, None, True, False, "0", (0,), [0], HUGE):
            self.assertIs(steady_holds(WORLD, COD, (0, 1), (("make", way, 0, (1,), (1, 1)),)), False, way)
            self.assertIs(steady_holds(WORLD, COD, (0, 1), (("make", way, 0, (1, 2), (1, 1)),)), False, way)

    def test_two_rows_with_all_but_the_share_alike(self):
        want = ("ale", 0, 7)
        self.assertIs(holds(("take", 0, 1, (1, 1)), ("take", 0, 1, (1, 1)), want=want), False)
        self.assertIs(holds(("take", 0, 1, (1, 1)), ("take", 0, 1, (1, 2)), want=want), False)
        self.assertIs(holds(("take", 0, 1, (1, 1)), ("take", 0, 2, (1, 1)), want=want), True)
        self.assertIs(holds(("make", 0, 0, (1,), (1, 1)), ("make", 0, 0, (1,), (1, 3))), False)
        self.assertIs(holds(("make", 0, 0, (1,), (1, 1)), ("make", 0, 0, (2,), (1, 3))), True)
        world = replaced(WORLD, (3,), WORLD[3][:1] * 2)
        self.assertIs(holds(("make", 0, 0, (1,), (1, 1)), ("make", 1, 0, (1,), (1, 1)), world=world), True)

    def test_other_words(self):
        for word in ODD + ("makes", "Make", "made", "takes", "take ", "brought"):
            self.assertIs(steady_holds(WORLD, COD, (0, 1), ((word, 0, 0, (1,), (1, 1)),)), False)
            self.assertIs(steady_holds(WORLD, ("ale", 0, 7), (1, 1), ((word, 0, 1, (1, 1)),)), False)
        self.assertIs(steady_holds(WORLD, COD, (0, 1), (("take", 0, 0, (1,), (1, 1)),)), False)
        self.assertIs(steady_holds(WORLD, ("ale", 0, 7), (1, 1), (("make", 0, 1, (1, 1)),)), False)

    def test_things_that_are_none(self):
        for thing in ODD + ODD_TUPLES + (ROW[0], list(ROW), (ROW,), {"0": ROW}, 3, "make", (("make",),), (("take",),)):
            for number in ((0, 1), (2, 1)):
                if thing != ():
                    self.assertIs(steady_holds(WORLD, COD, number, thing), False, thing)

    def test_each_part_otherwise(self):
        for path in paths(ROW):
            for new in ODD + ODD_TUPLES + (9, -1):
                if new != found(ROW, path):
                    self.assertIs(steady_holds(WORLD, COD, (2, 1), replaced(ROW, path, new)), False, (path, new))
            if isinstance(found(ROW, path), tuple):
                part = found(ROW, path)
                for wrong in (list(part), part + part[-1:], part[:-1]):
                    self.assertIs(steady_holds(WORLD, COD, (2, 1), replaced(ROW, path, wrong)), False, (path, wrong))

    def test_a_number_that_isnt_what_it_yields(self):
        self.assertIs(steady_holds(WORLD, COD, (2, 1), ROW), True)
        for number in ((1, 1), (3, 1), (0, 1), (-2, 1), (1, 2), (3, 2), (199, 100), (201, 100), (HUGE, 1)):
            self.assertIs(steady_holds(WORLD, COD, number, ROW), False)


class TestYieldsAndTimes(unittest.TestCase):
    def test_of_none(self):
        self.assertEqual(yields(()), (0, 1))
        self.assertEqual(times(()), 1)

    def test_makes_yield_nothing(self):
        self.assertEqual(yields(ROW[:2]), (0, 1))
        self.assertEqual(times(ROW[:2]), 1)

    def test_by_hand(self):
        takes = tuple(("take", 0, age, share) for age, share in enumerate(((1, 6), (1, 10), (1, 15))))
        self.assertEqual(yields(takes), (1, 3))
        self.assertEqual(times(takes), 30)
        self.assertEqual(yields((("make", 0, 0, (1,), (5, 7)),) + takes), (1, 3))
        self.assertEqual(times((("make", 0, 0, (1,), (5, 7)),) + takes), 210)
        self.assertEqual(times(takes + (("make", 0, 0, (1,), (7, 4)),)), 60)
        self.assertEqual(yields(ROW), (2, 1))
        self.assertEqual(times(ROW), 2)

    def test_against_pythons_fractions(self):
        dice = random.Random(261)
        for attempt in range(200):
            rows, shares = [], []
            for age in range(dice.randint(0, 7)):
                share = fractions.Fraction(dice.randint(1, 40), dice.choice((1, 2, 3, 4, 6, 12, 35, 10 ** 9 + 7)))
                shares.append(share)
                pair = (share.numerator, share.denominator)
                rows.append(dice.choice((("take", 0, age, pair), ("make", 0, 0, (age,), pair))))
            total = sum((share for row, share in zip(rows, shares) if row[0] == "take"), fractions.Fraction(0))
            self.assertEqual(yields(tuple(rows)), (total.numerator, total.denominator))
            least = times(tuple(rows))
            self.assertTrue(all((share * least).denominator == 1 for share in shares))
            for prime in (2, 3, 5, 7, 10 ** 9 + 7):
                if least % prime == 0:
                    self.assertFalse(all((share * (least // prime)).denominator == 1 for share in shares))

    def test_where_the_sources_bring_so_many_times_as_much(self):
        rows = (("make", 0, 0, (1,), (4, 3)), ("make", 1, 0, (0, 2), (4, 3)), ("take", 0, 4, (1, 3)), ("take", 0, 5, (1, 1)))
        world = replaced(WORLD, (2, 0, 4), 3)
        self.assertIs(holds(*rows, world=world), True)
        self.assertEqual(times(rows), 3)
        whole = tuple(row[:-1] + ((row[-1][0] * 3 // row[-1][1], 1),) for row in rows)
        self.assertEqual(times(whole), 1)
        self.assertIs(holds(*whole, world=replaced(WORLD, (2, 0, 4), 9)), True)


class TestAgainstTheWords(unittest.TestCase):
    """Random rows, held against what [24] says, age by age, in Python's own fractions."""

    def kept_up(self, world, want, rows):
        span, kinds, sources, ways = world
        comes, used = [], []
        for kind, age, place, since, many in sources:
            comes.append((kind, (place - age) % span, age, fractions.Fraction(many)))
        for row in rows:
            share = fractions.Fraction(row[-1][0], row[-1][1])
            if row[0] == "take":
                used.append((want[0], (row[1] - row[2]) % span, row[2], share))
            else:
                kind, parts, keeps, hours, wait = ways[row[1]]
                for part, age in zip(parts, row[3]):
                    used.append((part[0], (row[2] - age) % span, age, share))
                handed = max(row[3]) if keeps == "oldest" else min(row[3])
                comes.append((kind, (row[2] - handed) % span, handed + wait, share))
        for kind in kinds:
            for place in range(span):
                for f in range(SPENT + 1):
                    sums = [sum(row[3] for row in rows if row[:2] == (kind, place) and row[2] <= f) for rows in (used, comes)]
                    if sums[0] > sums[1]:
                        return False
        return True

    def random_case(self, dice):
        span = dice.randint(1, 2)
        kinds = ("ale", "bun", "cod")[:dice.randint(1, 3)]
        sources = tuple((dice.choice(kinds), dice.randint(0, 5), dice.randrange(span), 0, dice.randint(1, 9))
                        for k in range(dice.randint(1, 6)))
        ways = []
        for k in range(dice.randint(1, 6)):
            parts = []
            for j in range(dice.randint(1, 2)):
                least = dice.randint(0, 4)
                parts.append((dice.choice(kinds), least, dice.randint(least, 5)))
            hours = tuple(sorted(dice.sample(range(span), dice.randint(1, span))))
            ways.append((dice.choice(kinds), tuple(parts), dice.choice(("oldest", "youngest")), hours, dice.randint(1, 2)))
        world = (span, kinds, sources, tuple(ways))
        want = (dice.choice(kinds), dice.randint(0, 3), dice.randint(3, 7))
        rows = {}
        for k in range(dice.randint(1, 5)):
            share = fractions.Fraction(dice.randint(1, 6), dice.randint(1, 6))
            if dice.random() < 0.6:
                way = dice.randrange(len(ways))
                ages = tuple(dice.randint(least, greatest) for part, least, greatest in ways[way][1])
                rows["make", way, dice.choice(ways[way][3]), ages] = share
            else:
                rows["take", dice.randrange(span), dice.randint(want[1], want[2])] = share
        return world, want, tuple(key + ((share.numerator, share.denominator),) for key, share in rows.items())

    def test_random_ones(self):
        dice = random.Random(241)
        seen = {True: 0, False: 0}
        for attempt in range(1500):
            world, want, rows = self.random_case(dice)
            self.assertIsNone(worldfault(world))
            wanted = self.kept_up(world, want, rows)
            self.assertIs(holds(*rows, world=world, want=want), wanted, (world, want, rows))
            seen[wanted] += 1
        self.assertGreater(min(seen.values()), 100)


class TestFractions(unittest.TestCase):
    def test_is_fraction(self):
        for thing in ((0, 1), (1, 1), (-1, 1), (3, 7), (-6, 35), (HUGE, 1), (1, HUGE)):
            self.assertIs(is_fraction(thing), True, thing)
        for thing in ODD + ODD_TUPLES + ((0, 2), (2, 2), (1, 0), (0, 0), (1, -1), (-3, 6), (True, 1), (1, True), [1, 2], (1, 2, 3),
                                         (1, "2"), (None, 1), 1):
            self.assertIs(is_fraction(thing), False, thing)

    def test_divisors_and_multiples(self):
        self.assertEqual([common_divisor(12, 18), common_divisor(-12, 18), common_divisor(0, 5), common_divisor(7, 1)], [6, 6, 5, 1])
        self.assertEqual([common_multiple(4, 6), common_multiple(1, 7), common_multiple(5, 5)], [12, 7, 5])
        self.assertEqual([fraction(6, 4), fraction(0, 9), fraction(-6, 4)], [(3, 2), (0, 1), (-3, 2)])


class TestAsked(unittest.TestCase):
    def test_nothing_is_changed_and_the_same_is_told(self):
        for thing in (ROW, [list(row) for row in ROW], (list(ROW[0]),)):
            ahead = copy.deepcopy((WORLD, COD, thing))
            self.assertEqual(steady_holds(WORLD, COD, (2, 1), thing), steady_holds(WORLD, COD, (2, 1), thing))
            self.assertEqual((WORLD, COD, thing), ahead)

    def test_defined_here(self):
        for one in (is_narrow, steady_holds, yields, times):
            self.assertEqual(one.__module__, "rightage.steady")


if __name__ == "__main__":
    unittest.main()
