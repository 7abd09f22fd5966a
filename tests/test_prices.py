"""[23], [25], [26]: prices_hold and worth; and steady rows against price lists."""

import copy
import random
import unittest
from fractions import Fraction

from rightage.bounds import SPENT
from rightage.errors import BadWish, NotNarrow
from rightage.mosts import most
from rightage.prices import prices_hold, worth
from rightage.steady import steady_holds, times, yields
from rightage.worlds import worldfault
from tests import byprice
from tests.byprice import greatest_narrow, has_price_form, is_price_list, made_of, makings, narrow_world, random_want
from tests.samples import HUGE, LARGEST, ODD, ODD_TUPLES, PLAIN, SMALLEST, found, paths, replaced

# Two ales to a bun, at even moments; ale comes new at even moments, four; bun comes three old at odd ones.
WORLD = (
    2, ("ale", "bun"), (("ale", 0, 0, 0, 4), ("bun", 3, 1, 9, 2)),
    (("bun", (("ale", 1, 3), ("ale", 2, 4)), "oldest", (0,), 2),))
BUN = ("bun", 0, 7)


def cell(number):
    number = Fraction(number)
    return (number.numerator, number.denominator)


def even(world, number):
    """One price for all."""
    return ((((cell(number),) * 8,) * world[0]),) * len(world[1])


def as_cell(told):
    return (told.numerator, told.denominator)


class PriceCase(unittest.TestCase):
    def holds(self, world, want, thing, wanted=True, number=None):
        """Whether it holds, with the worth that it has, or with that number."""
        if number is None:
            number = as_cell(byprice.worth(world, thing)) if has_price_form(world, thing) else (0, 1)
        told = prices_hold(world, want, number, thing)
        self.assertIs(told, wanted, thing)


class TestEven(PriceCase):
    def test_one_price_for_all(self):
        for world in (WORLD, SMALLEST):
            want = (world[1][-1], 0, 7)
            self.holds(world, want, even(world, 1))
            self.holds(world, want, even(world, Fraction(7, 2)))
            self.holds(world, want, even(world, Fraction(99, 100)), False)
            self.holds(world, want, even(world, 0), False)
            self.holds(world, want, even(world, -1), False)

    def test_its_worth(self):
        self.holds(WORLD, BUN, even(WORLD, 1), number=(6, 1))
        self.holds(WORLD, BUN, even(WORLD, Fraction(4, 3)), number=(8, 1))
        for number in ((5, 1), (7, 1), (0, 1), (-6, 1), (61, 10), (6, 7), (HUGE, 1)):
            self.holds(WORLD, BUN, even(WORLD, 1), False, number=number)
        self.holds(SMALLEST, ("a", 0, 7), even(SMALLEST, 1), number=(0, 1))
        self.assertEqual(worth(WORLD, even(WORLD, 1)), (6, 1))
        self.assertEqual(worth(WORLD, even(WORLD, Fraction(1, 4))), (3, 2))
        self.assertEqual(worth(SMALLEST, even(SMALLEST, 5)), (0, 1))

    def test_wants_at_one_age(self):
        # With what comes no more the price may be nought behind the want's ages.
        falling = ((((1, 1),) * 3 + ((0, 1),) * 5,),)
        world = (1, ("ale",), (("ale", 0, 0, 0, 4), ("ale", 3, 0, 0, 5)), ())
        self.holds(world, ("ale", 0, 2), falling, number=(4, 1))
        self.holds(world, ("ale", 2, 2), falling, number=(4, 1))
        self.holds(world, ("ale", 2, 3), falling, False, number=(4, 1))
        self.holds(world, ("ale", 3, 3), falling, False, number=(4, 1))

    def test_falling_ones(self):
        world = (1, ("ale", "bun"), (("ale", 0, 0, 0, 4), ("ale", 2, 0, 0, 1)), (("bun", (("ale", 1, 1), ("ale", 0, 2)), "oldest", (0,), 1),))
        halves = (((1, 2),) * 2 + ((1, 2),) + ((0, 1),) * 5,)
        bun = (((1, 1),) * 8,)
        self.holds(world, ("bun", 0, 7), (halves, bun), number=(5, 2))
        # Where the ale two old has no price, what is made of it and of one that is one old gains.
        less = (((1, 2),) * 2 + ((0, 1),) * 6,)
        self.holds(world, ("bun", 0, 7), (less, bun), False, number=(2, 1))
        self.holds(world, ("bun", 0, 7), ((((1, 1),) * 2 + ((0, 1),) * 6,), bun), number=(4, 1))
        # Only buns two old or more are made.
        self.holds(world, ("bun", 0, 2), (halves, (((1, 1),) * 3 + ((0, 1),) * 5,)), number=(5, 2))


class TestSpoilt(PriceCase):
    def setUp(self):
        self.number, self.steady, self.prices = most(WORLD, BUN)
        self.holds(WORLD, BUN, self.prices, number=self.number)

    def test_another_number(self):
        above, below = self.number
        for number in ((above + 1, below), (above - 1, below), (-above, below), (2 * above + 1, 2 * below), (0, 1)):
            number = cell(Fraction(*number))
            self.holds(WORLD, BUN, self.prices, False, number=number)

    def test_rising_from_an_age_to_the_next(self):
        thing = even(WORLD, 2)
        for k in range(2):
            for place in range(2):
                for age in range(8):
                    # Less at this age alone: the next one rises, but the last has none.
                    self.holds(WORLD, BUN, replaced(thing, (k, place, age), (3, 2)), age == 7)
                    self.holds(WORLD, BUN, replaced(thing, (k, place, age), (5, 2)), age == 0)
        self.holds(WORLD, BUN, replaced(thing, (0, 0, 7), (199, 100)))
        self.holds(WORLD, BUN, replaced(thing, (0, 1, 3), (HUGE - 1, HUGE)), False)

    def test_below_nought(self):
        world = (1, ("ale", "bun"), (("ale", 0, 0, 0, 4),), ())
        for age in range(8):
            row = ((1, 1),) * age + ((0, 1),) * (8 - age)
            self.holds(world, BUN, ((row,), (((1, 1),) * 8,)))
            row = ((1, 1),) * age + ((-1, 9),) * (8 - age)
            self.holds(world, BUN, ((row,), (((1, 1),) * 8,)), False)

    def test_no_fractions(self):
        thing = even(WORLD, 2)
        for odd in ((4, 2), (2, 0), (-2, -1), (2, -1), (True, 1), (2, True), (2.0, 1), [2, 1], (2,), (2, 1, 1), (), 2, None, True, "2",
                    ("2", 1), (2, "1"), (0, 2), (0, 0), {}, ((2, 1),), (2, 1.0), (None, 1), (20, 10), (HUGE * 2, HUGE)):
            for path in ((0, 0, 0), (1, 1, 7), (0, 1, 3)):
                self.holds(WORLD, BUN, replaced(thing, path, odd), False, number=(12, 1))
        self.holds(WORLD, BUN, thing, number=(12, 1))
        # Nought is told over 1 alone.
        world = (1, ("ale", "bun"), (), ())
        for odd in ((0, 2), (0, 3), (0, 0), (0, -1), (False, 1), 0, (0,)):
            thing = (even(world, 0)[0], even(world, 1)[0])
            self.holds(world, BUN, thing, number=(0, 1))
            self.holds(world, BUN, replaced(thing, (0, 0, 5), odd), False, number=(0, 1))

    def test_a_part_more_or_fewer(self):
        thing = even(WORLD, 2)
        for path in paths(thing):
            there = found(thing, path)
            if isinstance(there, tuple):
                number = (12, 1)
                self.holds(WORLD, BUN, replaced(thing, path, there + there[-1:]), False, number=number)
                self.holds(WORLD, BUN, replaced(thing, path, there[:-1]), False, number=number)
                self.holds(WORLD, BUN, replaced(thing, path, ()), False, number=number)
                self.holds(WORLD, BUN, replaced(thing, path, list(there)), False, number=number)
                self.holds(WORLD, BUN, replaced(thing, path, {"a": 1}), False, number=number)

    def test_other_things(self):
        for thing in ODD + ODD_TUPLES + (self.steady, (self.prices,), ("prices", self.prices), WORLD, most(WORLD, BUN)):
            for number in ((0, 1), self.number):
                self.holds(WORLD, BUN, thing, False, number=number)
        for path in paths(self.prices):
            for odd in ODD:
                # A huge number may stand within a fraction.
                if len(path) < 4 or odd not in (HUGE, -HUGE):
                    self.holds(WORLD, BUN, replaced(self.prices, path, odd), False, number=self.number)

    def test_the_list_of_another_world(self):
        for world in ((1, ("ale", "bun"), (), ()), (2, ("ale",), (), ()), (2, ("ale", "bun", "cod"), (), ())):
            self.holds(world, (world[1][-1], 0, 7), even(WORLD, 1), False, number=(0, 1))


class TestGains(PriceCase):
    def test_one_making_alone(self):
        # Just one choice of ages gains: the price of what is made of it is above its parts' together.
        for keeps in ("oldest", "youngest"):
            for hours in ((0,), (1,), (0, 1)):
                way = ("bun", (("ale", 1, 3), ("cod", 2, 5)), keeps, hours, 2)
                world = (2, ("ale", "bun", "cod"), (("ale", 0, 0, 0, 4),), (way,))
                for place, ages in [(place, ages) for k, place, ages in makings(world)]:
                    self.one_alone(world, way, place, ages)

    def one_alone(self, world, way, place, ages):
        """Prices under which this making just doesn't gain, and a little less."""
        kind, origin, age = made_of(way, place, ages)
        # What is made has a price up to its age; the parts up to theirs, and no others have any.
        rows = {}
        for name in world[1]:
            for turn in range(2):
                rows[name, turn] = [Fraction(4)] * 8
        rows["bun", origin % 2] = [Fraction(10) if at <= age else Fraction(8) for at in range(8)]
        for part, old in zip(way[1], ages):
            row = rows[part[0], (place - old) % 2]
            for at in range(8):
                row[at] = Fraction(10) if at < old else (Fraction(5) if at == old else Fraction(5) if at <= 5 else Fraction(4))
        thing = tuple(tuple(tuple(cell(price) for price in rows[name, turn]) for turn in range(2)) for name in world[1])
        self.holds(world, ("bun", 0, 7), thing, is_price_list(world, ("bun", 0, 7), thing))
        for part, old in zip(way[1], ages):
            lower = replaced(thing, (world[1].index(part[0]), (place - old) % 2, old), (49, 10))
            self.holds(world, ("bun", 0, 7), lower, is_price_list(world, ("bun", 0, 7), lower))

    def test_by_one_hair(self):
        # Parts of a half each, at every age; each making just doesn't gain.
        for keeps in ("oldest", "youngest"):
            world = (2, ("ale", "bun"), (("ale", 0, 0, 0, 4),), (("bun", (("ale", 1, 3), ("ale", 2, 4)), keeps, (0, 1), 2),))
            thing = (even(world, Fraction(1, 2))[0], even(world, 1)[0])
            self.holds(world, BUN, thing, number=(2, 1))
            told = set()
            for place in range(2):
                for age in range(8):
                    # Ales of that place are from that age on a hair cheaper.
                    row = ((1, 2),) * age + ((499, 1000),) * (8 - age)
                    lower = replaced(thing, (0, place), row)
                    wanted = is_price_list(world, BUN, lower)
                    told.add((age, wanted))
                    self.holds(world, BUN, lower, wanted)
            # Ales are used up to four old.
            self.assertEqual(told, {(age, age > 4) for age in range(8)})

    def test_one_hour_alone(self):
        # At even moments ales that began at even ones have even ages.
        world = (2, ("ale", "bun"), (), (("bun", (("ale", 2, 2),), "oldest", (0,), 1),))
        dear, cheap = ((1, 1),) * 8, ((0, 1),) * 8
        bun = (dear, dear)
        self.holds(world, BUN, ((dear, cheap), bun))
        self.holds(world, BUN, ((cheap, dear), bun), False)
        for hours, wanted in (((1,), (False, True)), ((0, 1), (False, False)), ((), (True, True))):
            other = replaced(world, (3, 0, 3), hours)
            self.holds(other, BUN, ((dear, cheap), bun), wanted[0])
            self.holds(other, BUN, ((cheap, dear), bun), wanted[1])
        odd = replaced(world, (3, 0, 1, 0), ("ale", 3, 3))
        self.holds(odd, BUN, ((cheap, dear), bun))
        self.holds(odd, BUN, ((dear, cheap), bun), False)

    def test_at_the_age_at_which_it_is_born(self):
        world = (1, ("ale", "bun"), (("ale", 0, 0, 0, 1),), (("bun", (("ale", 1, 1), ("ale", 3, 3)), "oldest", (0,), 2),))
        cheap = (((0, 1),) * 8,)
        for keeps, age in (("oldest", 5), ("youngest", 3)):
            turned = replaced(world, (3, 0, 2), keeps)
            for fall in range(1, 9):
                bun = (((1, 1),) * fall + ((0, 1),) * (8 - fall),)
                self.holds(turned, ("bun", 0, fall - 1), (cheap, bun), fall <= age, number=(0, 1))

    def test_at_one_way_alone(self):
        free = ("ale", (("bun", 0, 5),), "oldest", (0,), 1)
        way = ("bun", (("ale", 0, 5),), "oldest", (0,), 1)
        thing = (even(WORLD, 0)[0][:1], even(WORLD, 1)[0][:1])
        for at in range(8):
            ways = (free,) * at + (way,) + (free,) * (7 - at)
            self.holds((1, ("ale", "bun"), (), ways), BUN, thing, False, number=(0, 1))
        self.holds((1, ("ale", "bun"), (), (free,) * 8), BUN, thing, number=(0, 1))


class TestWanted(PriceCase):
    def test_below_one_at_one_age_and_place_alone(self):
        world = (2, ("ale", "bun"), (("ale", 0, 0, 0, 4), ("bun", 0, 1, 0, 3)), ())
        for kind in range(2):
            for place in range(2):
                for fall in range(9):
                    row = ((1, 1),) * fall + ((99, 100),) * (8 - fall)
                    thing = replaced(even(world, 1), (kind, place), row)
                    for least, greatest in ((0, 7), (0, 0), (7, 7), (2, 5), (4, 4)):
                        self.holds(world, ("bun", least, greatest), thing, kind == 0 or fall > greatest)
                        self.holds(world, ("ale", least, greatest), thing, kind == 1 or fall > greatest)


class TestRefused(unittest.TestCase):
    def test_not_narrow_ahead_of_bad_wish(self):
        for world in (PLAIN, LARGEST, replaced(WORLD, (0,), 3)):
            for want in ODD + (BUN, ("jam", 0, 9)):
                for thing in (None, ()):
                    with self.assertRaises(NotNarrow):
                        prices_hold(world, want, (0, 1), thing)

    def test_bad_wish(self):
        def refused(want, word):
            for thing in (None, (), even(WORLD, 1)):
                with self.assertRaises(BadWish) as caught:
                    prices_hold(WORLD, want, (0, 1), thing)
                self.assertEqual((caught.exception.item, caught.exception.word), (0, word))
        for want in ODD + ODD_TUPLES + (list(BUN), (BUN,), BUN[:2], BUN + (1,)):
            refused(want, "item")
        for kind in ("cod", None, True, ["ale"], ()):
            refused((kind, -1, -1), "kind")
        for least in (-1, SPENT + 1, True, None, "0", HUGE):
            refused(("bun", least, -1), "least")
        for greatest in (1, -1, SPENT + 1, True, None, HUGE):
            refused(("bun", 2, greatest), "greatest")


class TestWorth(unittest.TestCase):
    def test_several_sources_of_one(self):
        world = (2, ("ale", "bun"), (("ale", 1, 0, 0, 4), ("ale", 1, 0, 99, 3), ("ale", 0, 0, 0, 2), ("bun", 5, 1, 0, 9)), ())
        rows = tuple(tuple(tuple((100 * k + 10 * place + 8 - age, 1) for age in range(8)) for place in range(2)) for k in range(2))
        # Ale one old at an even moment began at an odd one; bun five old at an odd one at an even one.
        self.assertEqual(worth(world, rows), (7 * 17 + 2 * 8 + 9 * 103, 1))
        thirds = tuple(tuple(tuple(cell(Fraction(price[0], 3)) for price in row) for row in table) for table in rows)
        self.assertEqual(worth(world, thirds), cell(Fraction(7 * 17 + 2 * 8 + 9 * 103, 3)))

    def test_random(self):
        dice = random.Random(251)
        for k in range(100):
            world = narrow_world(dice)
            thing = tuple(tuple(
                tuple(cell(price) for price in sorted((Fraction(dice.randint(0, 30), dice.randint(1, 9)) for age in range(8)), reverse=True))
                for place in range(world[0])) for kind in world[1])
            self.assertEqual(worth(world, thing), as_cell(byprice.worth(world, thing)))


class TestMany(PriceCase):
    def lists(self, dice, world, want):
        """Some price lists, such that hold and others."""
        told = most(world, want)[2]
        yield told
        yield even(world, 1)
        yield even(world, dice.randint(1, 9))
        more = Fraction(dice.randint(1, 30), dice.randint(1, 9))
        yield tuple(tuple(tuple(cell(Fraction(*price) * more) for price in row) for row in rows) for rows in told)
        yield tuple(tuple(tuple(cell(Fraction(*price) + more) for price in row) for row in rows) for rows in told)
        for turn in range(4):
            path = (dice.randrange(len(world[1])), dice.randrange(world[0]), dice.randrange(8))
            change = Fraction(dice.choice((-1, 1)), dice.choice((1, 2, 100)))
            yield replaced(told, path, cell(Fraction(*found(told, path)) + change))
            row = found(told, path[:2])
            yield replaced(told, path[:2], tuple(
                cell(max(0, Fraction(*price) + change)) if age <= path[2] else price for age, price in enumerate(row)))

    def test_against_sums_of_its_own(self):
        dice = random.Random(252)
        counts = {True: 0, False: 0}
        for k in range(120):
            world = narrow_world(dice)
            want = random_want(dice, world)
            for thing in self.lists(dice, world, want):
                wanted = is_price_list(world, want, thing)
                counts[wanted] += 1
                self.holds(world, want, thing, wanted)
        self.assertGreater(min(counts.values()), 200)

    def test_most(self):
        dice = random.Random(253)
        for k in range(60):
            world = greatest_narrow(dice) if k % 4 == 0 else narrow_world(dice)
            want = random_want(dice, world)
            number, steady, prices = most(world, want)
            self.assertIs(prices_hold(world, want, number, prices), True)
            self.assertEqual(worth(world, prices), number)
            self.assertIs(steady_holds(world, want, number, steady), True)
            self.assertEqual(yields(steady), number)

    def test_no_row_yields_more_than_any_worth(self):
        dice = random.Random(254)
        pairs = 0
        for k in range(60):
            world = narrow_world(dice)
            want = random_want(dice, world)
            steady = most(world, want)[1]
            rows = [steady, ()]
            for share in (Fraction(1, 2), Fraction(2, 7)):
                rows.append(tuple(row[:-1] + (cell(Fraction(*row[-1]) * share),) for row in steady))
            for row in rows:
                self.assertIs(steady_holds(world, want, yields(row), row), True)
                for thing in self.lists(dice, world, want):
                    if prices_hold(world, want, worth(world, thing) if is_price_list(world, want, thing) else (0, 1), thing):
                        self.assertLessEqual(Fraction(*yields(row)), Fraction(*worth(world, thing)))
                        pairs += 1
        self.assertGreater(pairs, 500)

    def mixed(self, share, one, other):
        """So many times of the one row and the rest of the other."""
        shares = {}
        for part, rows in ((share, one), (1 - share, other)):
            for row in rows:
                shares[row[:-1]] = shares.get(row[:-1], 0) + part * Fraction(*row[-1])
        return tuple(key + (cell(shares[key]),) for key in sorted(shares, key=repr))

    def test_rows_and_lists_together(self):
        dice = random.Random(255)
        done = 0
        for k in range(80):
            world = narrow_world(dice)
            want = random_want(dice, world)
            number, steady, prices = most(world, want)
            # Another row: what yields the most at one of the ages alone.
            age = dice.randint(want[1], want[2])
            other = most(world, (want[0], age, age))
            share = Fraction(dice.randint(1, 6), 7)
            row = self.mixed(share, steady, other[1])
            wanted = share * Fraction(*number) + (1 - share) * Fraction(*other[0])
            self.assertIs(steady_holds(world, want, cell(wanted), row), True)
            self.assertEqual(yields(row), cell(wanted))
            least = 1
            while any((least * Fraction(*part[-1])).denominator > 1 for part in row):
                least += 1
            self.assertEqual(times(row), least)
            # Likewise two price lists.
            ones = even(world, 1)
            both = tuple(tuple(tuple(
                cell(share * Fraction(*prices[at][place][old]) + (1 - share)) for old in range(8))
                for place in range(world[0])) for at in range(len(world[1])))
            wanted = share * Fraction(*worth(world, prices)) + (1 - share) * Fraction(*worth(world, ones))
            self.assertEqual(worth(world, both), cell(wanted))
            self.assertIs(prices_hold(world, want, cell(wanted), both), True)
            done += row != ()
        self.assertGreater(done, 30)


class TestAll(unittest.TestCase):
    def test_the_same_answer_and_nothing_changed(self):
        self.assertIsNone(worldfault(WORLD))
        thing = [list(most(WORLD, BUN)[2]), {"a": [1]}]
        kept = copy.deepcopy(thing)
        for turn in range(2):
            self.assertIs(prices_hold(WORLD, BUN, (3, 1), thing), False)
            self.assertIs(prices_hold(WORLD, BUN, (6, 1), even(WORLD, 1)), True)
        self.assertEqual(thing, kept)


if __name__ == "__main__":
    unittest.main()
