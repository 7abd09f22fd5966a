"""[7] paperfault."""

import copy
import random
import unittest

from rightage.bounds import LAST
from rightage.papers import moved, paperfault, shows, things, trimmed
from tests.samples import HUGE, LARGEST, ODD, ODD_TUPLES, PLAIN, SMALLEST, found, paths, replaced

# bud comes at 2, 6, 10, .. three old; rye comes new at each fourth moment from 8 on.
WORLD = (
    4,
    ("bud", "jam", "rye"),
    (("bud", 3, 2, 0, 1), ("rye", 0, 0, 8, 1)),
    (
        ("jam", (("bud", 5, 9),), "oldest", (0, 1), 2),
        ("jam", (("rye", 0, 4), ("bud", 3, 8)), "youngest", (0, 3), 1),
        ("bud", (("jam", 0, 20), ("jam", 0, 20), ("rye", 1, 6)), "oldest", (2,), 3),
        ("rye", (("rye", 2, 3),), "oldest", (), 1),
    ),
)

# Things: bud of -1, born at 2; rye of 8; bud of 7, born at 10; jam of 8 (the youngest), born at 12;
# jam of 7, born at 14; bud of 7, born at 17; bud of 8, born at 17.
PAPER = (
    ("brought", 0, 2),
    ("brought", 1, 8),
    ("brought", 0, 10),
    ("made", 1, 11, (1, 2)),
    ("made", 0, 12, (2,)),
    ("made", 2, 14, (4, 3, 1)),
    ("made", 2, 14, (3, 3, 1)),
)


def with_row(number, row):
    return replaced(PAPER, (number,), row)


class TestNoFault(unittest.TestCase):
    def lets(self, *paper):
        self.assertIsNone(paperfault(WORLD, paper))

    def test_one_row_and_many(self):
        self.lets(("brought", 0, 2))
        self.lets(("brought", 1, 8))
        self.lets(*PAPER)
        for many in range(1, len(PAPER)):
            self.lets(*PAPER[:many])

    def test_one_row_as_several_parts(self):
        world = (1, ("a",), (("a", 0, 0, 0, 1),), (("a", (("a", 0, 9),) * 3, "oldest", (0,), 1),))
        self.assertIsNone(paperfault(world, (("brought", 0, 5), ("made", 0, 5, (0, 0, 0)))))
        self.assertIsNone(paperfault(world, (("brought", 0, 5), ("made", 0, 5, (0,) * 3), ("made", 0, 6, (1, 0, 1)))))

    def test_the_same_row_twice(self):
        self.lets(("brought", 0, 2), ("brought", 0, 2))

    def test_later_rows_may_come_at_earlier_moments(self):
        self.lets(("brought", 0, 10), ("brought", 0, 2), ("made", 0, 4, (1,)))

    def test_moments_from_nought(self):
        world = (1, ("a",), (("a", 3, 0, 0, 1),), (("a", (("a", 3, 3),), "oldest", (0,), 1),))
        self.assertIsNone(paperfault(world, (("brought", 0, 0), ("made", 0, 0, (0,)))))

    def test_moments_to_last(self):
        # LAST has place 0.
        self.assertEqual(LAST % 4, 0)
        self.lets(("brought", 1, LAST))
        self.lets(("brought", 0, LAST - 6), ("made", 0, LAST, (0,)))

    def test_many_rows(self):
        self.lets(*[("brought", 0, 2 + 4 * k) for k in range(900)])


class TestFaults(unittest.TestCase):
    def fault(self, paper):
        return paperfault(WORLD, paper)

    def test_no_paper(self):
        for thing in ODD + ((), list(PAPER), 7, "brought", {"0": PAPER}):
            self.assertEqual(self.fault(thing), (-1, "paper"), thing)
            self.assertEqual(paperfault(SMALLEST, thing), (-1, "paper"), thing)

    def bad_rows(self, number):
        """Rows that are none where they stand, having as many rows ahead."""
        told = [("brought", 0), ("brought", 0, 2, 1), ("brought", 0, 2, ()), ("made", 0, 12), ("made",), (), (0, 2),
                ("made", 0, 12, (0,), 0), ("Brought", 0, 2), ("bought", 0, 2), ("made", 0, 2), ("brought", 0, 4, (0,)),
                (None, 0, 2), (["brought"], 0, 2), ("brought", 0, 2)[::-1], list(("brought", 0, 2)),
                ["made", 0, 12, (0,)], "brought", {"brought": 0}]
        # Sources and ways that the world hasn't.
        told += [("brought", wrong, 2) for wrong in (2, -1, -2, 9, True, False, None, "0", (0,), [0], HUGE)]
        if number > 0:
            told += [("made", wrong, 12, (0,)) for wrong in (4, -1, -4, 9, True, False, None, "0", (0,), [0], HUGE)]
        # Moments.
        wrong_moments = (-1, -2, -4, LAST + 1, LAST + 4, HUGE, -HUGE, True, False, None, "2", (2,), [2])
        told += [("brought", 1, wrong) for wrong in wrong_moments]
        if number > 0:
            told += [("made", 0, wrong, (0,)) for wrong in wrong_moments]
        # Parts: another count, a list, a row's own number, a later one, one below 0.
        told += [("made", 0, 12, wrong) for wrong in ((), [], None, 0, "0", {}, {"0": 0}, True)]
        told += [("made", 0, 12, (wrong,)) for wrong in
                 (number, number + 1, 99, -1, -2, HUGE, True, False, None, "0", (0,), [0])]
        if number > 0:
            told += [("made", 0, 12, (0, 0)), ("made", 1, 12, (0,)), ("made", 1, 12, (0, 0, 0)), ("made", 0, 12, [0]),
                     ("made", 2, 12, (0, 0)), ("made", 1, 12, (0, True)), ("made", 1, 12, (0, -1)),
                     ("made", 1, 12, (0, number)), ("made", 1, 12, (number, 0)), ("made", 2, 14, (0, 0, [0]))]
        return told + [thing for thing in ODD + ODD_TUPLES]

    def test_row(self):
        for number in (0, 1, 3, 6):
            for row in self.bad_rows(number):
                self.assertEqual(self.fault(with_row(number, row)), (number, "row"), row)
        for row in self.bad_rows(7):
            self.assertEqual(self.fault(PAPER + (row,)), (7, "row"), row)
        for row in self.bad_rows(0):
            self.assertEqual(self.fault((row,)), (0, "row"), row)

    def test_a_world_without_sources_and_ways(self):
        self.assertEqual(paperfault(SMALLEST, (("brought", 0, 0),)), (0, "row"))
        self.assertEqual(paperfault(SMALLEST, (("brought", -1, 0),)), (0, "row"))
        self.assertEqual(paperfault(SMALLEST, (("made", 0, 0, ()),)), (0, "row"))

    def test_source_moment(self):
        # At another place; ahead of its since.
        rows = [("brought", 0, moment) for moment in (0, 1, 3, 4, 5, 7, LAST)]
        rows += [("brought", 1, moment) for moment in (0, 4, 1, 6, 7, 9, 10, 11, LAST - 1)]
        for row in rows:
            for number in (0, 3, 6):
                self.assertEqual(self.fault(with_row(number, row)), (number, "moment"), row)
            self.assertEqual(self.fault((row,)), (0, "moment"))

    def test_way_moment(self):
        rows = [("made", 0, moment, (0,)) for moment in (2, 3, 6, 7, 10, 14, LAST - 1)]
        rows += [("made", 1, moment, (1, 2)) for moment in (9, 10, 13, 14)]
        rows += [("made", 3, moment, (1,)) for moment in range(8, 16)]
        for row in rows:
            self.assertEqual(self.fault(PAPER[:3] + (row,)), (3, "moment"), row)
            self.assertEqual(self.fault(PAPER[:3] + (row,) + PAPER[:2]), (3, "moment"), row)
        self.assertEqual(self.fault((PAPER[0], ("made", 0, 6, (0,)), PAPER[1])), (1, "moment"))

    def test_part_of_another_kind(self):
        self.assertEqual(self.fault(PAPER[:3] + (("made", 0, 12, (1,)),)), (3, "part"))
        self.assertEqual(self.fault(PAPER[:3] + (("made", 1, 11, (2, 2)),)), (3, "part"))
        self.assertEqual(self.fault(PAPER[:3] + (("made", 1, 11, (2, 1)),)), (3, "part"))
        self.assertEqual(self.fault(PAPER[:3] + (("made", 1, 11, (1, 1)),)), (3, "part"))
        self.assertEqual(self.fault(with_row(5, ("made", 2, 14, (4, 3, 4)))), (5, "part"))
        self.assertEqual(self.fault(with_row(6, ("made", 2, 14, (3, 2, 1)))), (6, "part"))

    def test_part_not_yet_born(self):
        # Jam of 8 is made at 11 and born at 12, jam of 7 at 14; at 14 both are let, by 13 only one.
        world = replaced(WORLD, (3, 2, 3), (0, 1, 2, 3))
        for moment, fault in ((12, (5, "part")), (13, (5, "part")), (14, None)):
            paper = PAPER[:5] + (("made", 2, moment, (4, 3, 1)),)
            self.assertEqual(paperfault(world, paper), fault, moment)
        for moment, fault in ((11, (5, "part")), (12, None), (13, None)):
            paper = PAPER[:5] + (("made", 2, moment, (3, 3, 1)),)
            self.assertEqual(paperfault(world, paper), fault, moment)
        # Brought at 10, of origin 7: at 9 it would be two old and isn't there.
        world = replaced(replaced(WORLD, (3, 0, 1, 0, 1), 0), (3, 0, 3), (0, 1, 2, 3))
        for moment, fault in ((8, (1, "part")), (9, (1, "part")), (10, None), (11, None)):
            self.assertEqual(paperfault(world, (("brought", 0, 10), ("made", 0, moment, (0,)))), fault, moment)

    def test_both_ends_of_the_window(self):
        world = replaced(WORLD, (3, 0, 3), (0, 1, 2, 3))
        # Bud of -1: five old at 4, nine old at 8.
        for moment, fault in ((3, (1, "part")), (4, None), (5, None), (7, None), (8, None), (9, (1, "part"))):
            self.assertEqual(paperfault(world, (("brought", 0, 2), ("made", 0, moment, (0,)))), fault, moment)
        for least, greatest, fault in ((6, 6, None), (5, 6, None), (6, 9, None), (7, 7, (1, "part")),
                                       (5, 5, (1, "part")), (0, 5, (1, "part")), (7, 20, (1, "part"))):
            other = replaced(world, (3, 0, 1, 0), ("bud", least, greatest))
            self.assertEqual(paperfault(other, (("brought", 0, 2), ("made", 0, 5, (0,)))), fault)

    def test_any_part_may_be_the_wrong_one(self):
        world = (1, ("a",), (("a", 0, 0, 0, 1),), (("a", (("a", 1, 2), ("a", 3, 4), ("a", 5, 6)), "oldest", (0,), 1),))
        ahead = tuple(("brought", 0, moment) for moment in range(10))
        # At 10 row k is 10 - k old.
        for parts in ((8, 6, 4), (9, 7, 5)):
            self.assertIsNone(paperfault(world, ahead + (("made", 0, 10, parts),)))
        for parts in ((7, 6, 4), (8, 8, 4), (8, 5, 4), (8, 6, 3), (8, 6, 6), (8, 6, 0), (4, 6, 8), (0, 6, 4)):
            self.assertEqual(paperfault(world, ahead + (("made", 0, 10, parts),)), (10, "part"))

    def test_age_is_of_the_origin_handed_on(self):
        world = (1, ("a", "b"), (("a", 4, 0, 0, 1),),
                 (("b", (("a", 0, 9), ("a", 0, 9)), "oldest", (0,), 2), ("a", (("b", 7, 7),), "youngest", (0,), 1),
                  ("b", (("a", 0, 9), ("a", 0, 9)), "youngest", (0,), 2)))
        # At 3 rows 0 and 1 are 7 and 4 old; at 5, when it is born, what is made is 9 or 6 old, and 7 a moment on.
        ahead = (("brought", 0, 0), ("brought", 0, 3))
        for moment in range(5, 10):
            old = paperfault(world, ahead + (("made", 0, 3, (0, 1)), ("made", 1, moment, (2,))))
            new = paperfault(world, ahead + (("made", 2, 3, (0, 1)), ("made", 1, moment, (2,))))
            self.assertEqual(old, (3, "part"))
            self.assertEqual(new, None if moment == 6 else (3, "part"))


class TestTwoFaults(unittest.TestCase):
    def test_the_first_row(self):
        bad = {"row": ("brought", 9, 2), "moment": ("brought", 0, 3), "part": ("made", 0, 12, (1,))}
        for first, second in ((one, other) for one in bad for other in bad):
            paper = PAPER[:3] + (bad[first], ("brought", 0, 2), bad[second])
            self.assertEqual(paperfault(WORLD, paper), (3, first))
            paper = PAPER[:3] + (bad[first], bad[second], ("brought", 0, 2))
            self.assertEqual(paperfault(WORLD, paper), (3, first))

    def test_within_a_row_the_word_that_comes_first(self):
        # A moment at which it isn't open, and a part of another kind.
        self.assertEqual(paperfault(WORLD, PAPER[:3] + (("made", 0, 14, (1,)),)), (3, "moment"))
        # Not open, and its own number as a part; a wrong source ahead of its since.
        self.assertEqual(paperfault(WORLD, PAPER[:3] + (("made", 0, 14, (3,)),)), (3, "row"))
        self.assertEqual(paperfault(WORLD, (("brought", 2, 3),)), (0, "row"))
        # A part of another kind, and a number of no row.
        self.assertEqual(paperfault(WORLD, PAPER[:3] + (("made", 1, 11, (2, 9)),)), (3, "row"))
        self.assertEqual(paperfault(WORLD, PAPER[:3] + (("made", 1, 11, (2, True)),)), (3, "row"))

    def test_a_bad_row_isnt_a_part(self):
        self.assertEqual(paperfault(WORLD, (("brought", 0, 3), ("made", 0, 4, (0,)))), (0, "moment"))


class TestAsked(unittest.TestCase):
    def test_each_part_of_a_paper_otherwise(self):
        dice = random.Random(7)
        for path in paths(PAPER):
            for new in ODD + ODD_TUPLES + (1, 5, "row", dice.randint(20, 30)):
                thing = replaced(PAPER, path, new)
                told = paperfault(WORLD, thing)
                if told is not None:
                    number, word = told
                    self.assertIn(word, ("paper", "row", "moment", "part"))
                    self.assertIn(number, range(-1, len(thing) if isinstance(thing, tuple) else 0))
                    self.assertIs(shows(WORLD, "bud", 8, 20, thing), False)

    def test_lists_in_the_place_of_tuples(self):
        for path in paths(PAPER):
            if isinstance(found(PAPER, path), tuple):
                thing = replaced(PAPER, path, list(found(PAPER, path)))
                self.assertEqual(paperfault(WORLD, thing), (path[0], "row") if path else (-1, "paper"))

    def test_nothing_is_changed_and_the_same_is_told(self):
        for thing in (PAPER, [list(row) for row in PAPER], (["brought", 0, 2],), {"a": [1]}):
            ahead = copy.deepcopy((WORLD, thing))
            self.assertEqual(paperfault(WORLD, thing), paperfault(WORLD, thing))
            self.assertEqual((WORLD, thing), ahead)

    def test_things_that_are_no_papers_of_any_world(self):
        for world in (SMALLEST, PLAIN, LARGEST):
            for thing in ODD + ODD_TUPLES + (world,):
                self.assertIsNotNone(paperfault(world, thing))

    def test_defined_here(self):
        for one in (paperfault, things, shows, moved, trimmed):
            self.assertEqual(one.__module__, "rightage.papers")


if __name__ == "__main__":
    unittest.main()
