"""[15] wishfault, and BadWish of all that take a wish; [16] comes, first_wish, wish_places, ages_there."""

import copy
import random
import unittest

from rightage.bounds import FAR, ITEMS, LATE, SINCE
from rightage.errors import BadWish
from rightage.least import table
from rightage.tables import has
from rightage.wishes import ages_there, comes, first_wish, wish_holds, wish_places, wish_verdict, wishfault
from tests.byhand import SLOW, gone_through, greatest_world, small_world, there_at
from tests.samples import HUGE, LARGEST, ODD, ODD_TUPLES, PLAIN, SMALLEST, paths, replaced

ITEM = ("jam", 2, 9)
ENDS = 190


def random_item(dice, kinds):
    least = dice.choice((0, 0, 1, 3, 8, dice.randint(0, LATE)))
    return (dice.choice(kinds), least, min(LATE, least + dice.choice((0, 0, 1, 2, 5, 20))))


def random_wish(dice, kinds):
    return tuple(random_item(dice, kinds) for k in range(dice.randint(1, ITEMS)))


def comes_by_hand(born, wish, moment):
    return all(there_at(born, kind, least, greatest, moment) for kind, least, greatest in wish)


class TestWishfault(unittest.TestCase):
    def test_wishes(self):
        for many in range(1, ITEMS + 1):
            self.assertIsNone(wishfault(PLAIN, (ITEM,) * many))
        self.assertEqual(ITEMS, 4)
        for least, greatest in ((0, 0), (0, LATE), (LATE, LATE), (7, 7), (7, 8)):
            self.assertIsNone(wishfault(PLAIN, (("rye", least, greatest),)))
        self.assertIsNone(wishfault(PLAIN, (("rye", 0, 1), ("bud", 3, 4), ("jam", 60, 60), ("bud", 3, 4))))

    def test_no_wish(self):
        for thing in ODD + ((), (ITEM,) * 5, (ITEM,) * 6, [ITEM], [list(ITEM)], 4, "jam", {"0": ITEM}, (None,) * 5):
            self.assertEqual(wishfault(PLAIN, thing), (-1, "wish"), thing)

    def faulty(self):
        """(word, item that has just this fault)."""
        told = [("item", item) for item in ODD + ((), ("jam",), ("jam", 2), ("jam", 2, 9, 9), list(ITEM), ("jam", 2) * 2)]
        told += [("kind", (kind, 2, 9)) for kind in ("ja", "jamm", "", "Jam", None, True, 0, ["jam"], ("jam",), {})]
        told += [("least", ("jam", least, 9)) for least in
                 (-1, LATE + 1, True, False, None, "2", (2,), [2], HUGE, -HUGE, {})]
        told += [("greatest", ("jam", 2, greatest)) for greatest in
                 (1, 0, -1, LATE + 1, True, False, None, "9", (9,), [9], HUGE, -HUGE)]
        told += [("greatest", ("jam", LATE, LATE - 1)), ("greatest", ("jam", 1, True)), ("greatest", ("jam", 0, False)),
                 ("greatest", ("jam", LATE, LATE + 1)), ("least", ("jam", LATE + 1, LATE + 1))]
        return told

    def test_each_word_at_each_place(self):
        for word, item in self.faulty():
            for many in range(1, ITEMS + 1):
                for at in range(many):
                    wish = replaced((ITEM,) * many, (at,), item)
                    self.assertEqual(wishfault(PLAIN, wish), (at, word), item)

    def test_two_faults(self):
        faulty = self.faulty()
        for one, other in zip(faulty, faulty[7:] + faulty[:7]):
            self.assertEqual(wishfault(PLAIN, (ITEM, one[1], other[1])), (1, one[0]))
            self.assertEqual(wishfault(PLAIN, (one[1],) + (other[1],) * 3), (0, one[0]))
            self.assertEqual(wishfault(PLAIN, (one[1],) + (other[1],) * 4), (-1, "wish"))
        for item, word in ((("ale", -1, -2), "kind"), (("jam", -1, -2), "least"), (("jam", 61, 62), "least"),
                           (("ale", 2, 1), "kind"), (("ale", 1), "item"), ((None, None, None), "kind")):
            self.assertEqual(wishfault(PLAIN, (item,)), (0, word))

    def test_kinds_are_of_that_world(self):
        self.assertEqual(wishfault(SMALLEST, (ITEM,)), (0, "kind"))
        self.assertIsNone(wishfault(SMALLEST, (("a", 0, 0),)))

    def test_nothing_is_changed(self):
        for thing in ((ITEM,), [list(ITEM)], (list(ITEM),), {"a": [ITEM]}):
            ahead = copy.deepcopy((PLAIN, thing))
            self.assertEqual(wishfault(PLAIN, thing), wishfault(PLAIN, thing))
            self.assertEqual((PLAIN, thing), ahead)


class TestBadWish(unittest.TestCase):
    def calls(self, wish):
        return (lambda: comes(PLAIN, wish, 5), lambda: first_wish(PLAIN, wish), lambda: wish_places(PLAIN, wish),
                lambda: wish_verdict(PLAIN, wish, 5), lambda: wish_holds(PLAIN, wish, 5, None),
                lambda: wish_holds(PLAIN, wish, 5, ("never", table(PLAIN))))

    def refused(self, wish, item, word):
        for call in self.calls(wish):
            with self.assertRaises(BadWish) as caught:
                call()
            self.assertEqual((caught.exception.item, caught.exception.word), (item, word))

    def test_with_its_fields(self):
        for thing in ODD + ((), (ITEM,) * 5, [ITEM]):
            self.refused(thing, -1, "wish")
        for word, item in TestWishfault.faulty(self):
            self.refused((ITEM, item), 1, word)
            self.refused((item, item), 0, word)

    def test_just_what_wishfault_tells(self):
        wish = (ITEM, ("rye", 0, 3))
        for path in paths(wish):
            for new in ODD + ODD_TUPLES + (3, 61, -1, "bud"):
                thing = replaced(wish, path, new)
                fault = wishfault(PLAIN, thing)
                if fault is not None:
                    self.refused(thing, fault[0], fault[1])
                else:
                    for call in self.calls(thing):
                        call()


class TestByHand(unittest.TestCase):
    # Ale comes at 2, 5, 8, .. one old: of 1, 4, 7; bun is made at 4, 7, 10, .. of ale three old, born two on.
    world = (3, ("ale", "bun"), (("ale", 1, 2, 0, 1),), (("bun", (("ale", 3, 3),), "oldest", (1,), 2),))

    def test_comes(self):
        for wish, wanted in (
                ((("ale", 1, 1),), [2, 5, 8, 11]), ((("ale", 0, 0),), []), ((("ale", 0, 1),), [2, 5, 8, 11]),
                ((("ale", 1, 2),), [2, 3, 5, 6, 8, 9, 11]), ((("ale", 4, 4),), [5, 8, 11]), ((("bun", 0, 4),), []),
                ((("bun", 5, 5),), [6, 9]), ((("bun", 5, 6), ("ale", 1, 1)), []),
                ((("bun", 5, 7), ("ale", 1, 1)), [8, 11]), ((("ale", 1, 1), ("ale", 1, 1), ("ale", 0, 9)), [2, 5, 8, 11]),
                ((("ale", 1, 1), ("ale", 2, 2)), []), ((("ale", 1, 1), ("ale", 4, 4), ("ale", 7, 7)), [8, 11])):
            told = [moment for moment in range(12) if comes(self.world, wish, moment)]
            self.assertEqual(told, wanted, wish)
            self.assertEqual(first_wish(self.world, wish), wanted[0] if wanted else None)
            places = tuple(sorted({moment % 3 for moment in wanted}))
            self.assertEqual(wish_places(self.world, wish), places)

    def test_ages_there(self):
        # At moments of place 2 ale is 1, 4, 7, .. old; bun, born five old at place 0, is 7, 10, .. old.
        self.assertEqual(ages_there(self.world, "ale", 2), tuple(range(1, 61, 3)))
        self.assertEqual(ages_there(self.world, "ale", 0), tuple(range(2, 61, 3)))
        self.assertEqual(ages_there(self.world, "ale", 1), tuple(range(3, 61, 3)))
        self.assertEqual(ages_there(self.world, "bun", 0), tuple(range(5, 61, 3)))
        self.assertEqual(ages_there(self.world, "bun", 2), tuple(range(7, 61, 3)))
        self.assertEqual(ages_there(self.world, "bun", 1), tuple(range(6, 61, 3)))

    def test_old_things(self):
        for age in (26, 27, 28, 59, 60):
            self.assertEqual(first_wish(self.world, (("ale", age, age),)), 1 + age)
            self.assertEqual(first_wish(self.world, (("bun", age, age),)), 1 + age)

    def test_truth(self):
        self.assertIs(comes(self.world, (("ale", 1, 1),), 2), True)
        self.assertIs(comes(self.world, (("ale", 1, 1),), 3), False)

    def test_nothing_ever(self):
        self.assertIsNone(first_wish(SMALLEST, (("a", 0, LATE),)))
        self.assertEqual(wish_places(SMALLEST, (("a", 0, LATE),)), ())
        self.assertEqual(ages_there(SMALLEST, "a", 0), ())
        self.assertIs(comes(SMALLEST, (("a", 0, LATE),), FAR), False)

    def test_a_late_source(self):
        world = (2, ("ale",), (("ale", 20, 1, SINCE, 1),), ())
        self.assertEqual(first_wish(world, (("ale", 0, 20),)), SINCE + 1)
        self.assertEqual(first_wish(world, (("ale", 60, 60),)), SINCE + 41)
        self.assertEqual(first_wish(world, (("ale", 0, 20), ("ale", 21, 21))), None)
        self.assertEqual(first_wish(world, (("ale", 0, 20), ("ale", 22, 22))), SINCE + 3)
        self.assertIs(comes(world, (("ale", 0, 20),), SINCE - 1), False)


class TestAgainstMoments(unittest.TestCase):
    def worlds(self, seed, many):
        dice = random.Random(seed)
        worlds = [small_world(dice) for k in range(many)] + list(SLOW)
        return [(dice, world, gone_through(world, ENDS)) for world in worlds]

    def test_comes(self):
        seen = {True: 0, False: 0}
        for dice, world, born in self.worlds(161, 40):
            for step in range(3):
                wish = random_wish(dice, world[1])
                for moment in sorted(dice.sample(range(ENDS + 1), 9)) + [0, 1, 2]:
                    wanted = comes_by_hand(born, wish, moment)
                    self.assertIs(comes(world, wish, moment), wanted)
                    seen[wanted] += 1
        self.assertGreater(min(seen.values()), 150)

    def test_first_wish_and_wish_places(self):
        # By 190 all ages have come to their last one, and a thing that is 60 old then can have been there at 26.
        seen = 0
        for dice, world, born in self.worlds(162, 120):
            for step in range(4):
                wish = random_wish(dice, world[1])
                moments = [moment for moment in range(ENDS + 1) if comes_by_hand(born, wish, moment)]
                told = first_wish(world, wish)
                self.assertEqual(told, moments[0] if moments else None, (world, wish))
                self.assertEqual(wish_places(world, wish), tuple(sorted({moment % world[0] for moment in moments})))
                if told is not None:
                    seen += 1
                    self.assertIs(comes(world, wish, told), True)
                    if told > 0:
                        self.assertIs(comes(world, wish, told - 1), False)
        self.assertGreater(seen, 90)

    def test_ages_there(self):
        for dice, world, born in self.worlds(163, 40):
            for kind in world[1]:
                for place in range(world[0]):
                    wanted = tuple(age for age in range(LATE + 1) if any(
                        there_at(born, kind, age, age, moment) for moment in range(place, ENDS + 1, world[0])))
                    self.assertEqual(ages_there(world, kind, place), wanted)


class TestFar(unittest.TestCase):
    def worlds(self):
        dice = random.Random(164)
        told = [small_world(dice) for k in range(30)] + list(SLOW) + [PLAIN, LARGEST, greatest_world(dice)]
        return [(dice, world) for world in told]

    def test_wish_places_over_a_whole_round_far_on(self):
        for dice, world in self.worlds():
            for step in range(3):
                wish = random_wish(dice, world[1])
                places = wish_places(world, wish)
                told = {moment % world[0] for moment in range(FAR - world[0] + 1, FAR + 1) if comes(world, wish, moment)}
                self.assertEqual(places, tuple(sorted(told)))
                self.assertEqual(first_wish(world, wish) is None, places == ())

    def test_a_round_later_it_comes_too(self):
        for dice, world in self.worlds():
            wish = random_wish(dice, world[1])
            first = first_wish(world, wish)
            if first is not None:
                for rounds in (0, 1, 2, 10, (FAR - first) // world[0]):
                    self.assertIs(comes(world, wish, first + rounds * world[0]), True)
                self.assertIs(comes(world, wish, first - 1), False)

    def test_ages_there_far_on(self):
        for dice, world in self.worlds():
            least = table(world)
            for kind in world[1]:
                for place in range(world[0]):
                    moment = FAR - (FAR - place) % world[0]
                    wanted = [age for age in range(LATE + 1) if has(world, least, kind, moment - age, age)]
                    self.assertEqual(list(ages_there(world, kind, place)), wanted)

    def test_one_thing_for_several_items(self):
        for dice, world in self.worlds():
            item = random_item(dice, world[1])
            for many in (2, 3, 4):
                self.assertEqual(first_wish(world, (item,) * many), first_wish(world, (item,)))
                self.assertEqual(wish_places(world, (item,) * many), wish_places(world, (item,)))


class TestAsked(unittest.TestCase):
    def test_tuples_and_the_same_answer(self):
        wish = (("jam", 0, 20), ("rye", 0, 9))
        ahead = copy.deepcopy((PLAIN, wish))
        for call in (lambda: wish_places(PLAIN, wish), lambda: ages_there(PLAIN, "jam", 1)):
            self.assertIsInstance(call(), tuple)
            self.assertEqual(call(), call())
        self.assertEqual(first_wish(PLAIN, wish), first_wish(PLAIN, wish))
        self.assertEqual((PLAIN, wish), ahead)

    def test_defined_here(self):
        for one in (wishfault, comes, first_wish, wish_places, ages_there, wish_verdict, wish_holds):
            self.assertEqual(one.__module__, "rightage.wishes")


if __name__ == "__main__":
    unittest.main()
