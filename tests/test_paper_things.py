"""[8] things, shows, moved and trimmed."""

import copy
import random
import unittest

from rightage.bounds import FAR, LAST
from rightage.errors import BadPaper
from rightage.papers import moved, paperfault, shows, things, trimmed
from tests.byhand import gone_through, small_world
from tests.samples import ODD, ODD_TUPLES, SMALLEST, paths, replaced
from tests.test_papers import PAPER, WORLD

THINGS = (
    ("bud", -1, 2), ("rye", 8, 8), ("bud", 7, 10), ("jam", 8, 12), ("jam", 7, 14), ("bud", 7, 17), ("bud", 8, 17))

# Each making takes the newest and one new thing: the origin comes down by "oldest" or goes along by "youngest".
CHAIN = (
    2, ("a", "b"), (("a", 1, 0, 0, 1),),
    (
        ("b", (("a", 0, 20), ("a", 0, 20)), "oldest", (0, 1), 1),
        ("b", (("a", 0, 20), ("b", 0, 20)), "oldest", (0, 1), 1),
        ("b", (("a", 0, 20), ("b", 0, 20)), "youngest", (0, 1), 1),
        ("a", (("b", 0, 20), ("b", 0, 20), ("a", 0, 20)), "youngest", (0, 1), 6),
    ),
)


def random_paper(dice, world, rows):
    """A paper without fault, of bringings and of makings that are let, where there are such."""
    told = []
    while len(told) < rows:
        options = [("brought", k, since + (place - since) % world[0] + world[0] * dice.randint(0, 4))
                   for k, (kind, age, place, since, many) in enumerate(world[2])]
        for k, way in enumerate(world[3]):
            for attempt in range(12):
                if told:
                    parts = tuple(dice.randrange(len(told)) for part in way[1])
                    options.append(("made", k, dice.randint(0, 40), parts))
        options = [row for row in options if paperfault(world, tuple(told + [row])) is None]
        if not options:
            return None
        made = [row for row in options if row[0] == "made"]
        told.append(dice.choice(made if made and dice.random() < 0.6 else options))
    return tuple(told)


def random_papers(seed, many=60):
    dice = random.Random(seed)
    told = []
    while len(told) < many:
        world = small_world(dice)
        paper = random_paper(dice, world, dice.randint(1, 14)) if world[2] else None
        if paper is not None:
            told.append((world, paper))
    return told


class TestThings(unittest.TestCase):
    def test_by_hand(self):
        self.assertEqual(things(WORLD, PAPER), THINGS)
        self.assertEqual(things(WORLD, PAPER[:1]), THINGS[:1])

    def test_origins_through_several_makings(self):
        paper = (
            ("brought", 0, 0), ("brought", 0, 4), ("made", 0, 4, (0, 1)), ("brought", 0, 8), ("made", 1, 8, (3, 2)),
            ("made", 2, 9, (3, 4)), ("made", 1, 10, (0, 5)), ("made", 3, 11, (6, 5, 1)), ("made", 3, 12, (6, 6, 0)))
        self.assertEqual(things(CHAIN, paper), (
            ("a", -1, 0), ("a", 3, 4), ("b", -1, 5), ("a", 7, 8), ("b", -1, 9),
            ("b", 7, 10), ("b", -1, 11), ("a", 7, 17), ("a", -1, 18)))

    def test_bad_paper_with_its_fields(self):
        cases = [(thing, -1, "paper") for thing in ODD + ((), list(PAPER))]
        cases += [((("brought", 5, 2),), 0, "row"), (PAPER[:1] + (("brought", 0, 3),), 1, "moment"),
                  (PAPER[:3] + (("made", 0, 12, (1,)),), 3, "part"), ((7,), 0, "row"), (([],), 0, "row")]
        for thing, number, word in cases:
            with self.assertRaises(BadPaper) as caught:
                things(WORLD, thing)
            self.assertEqual((caught.exception.number, caught.exception.word), (number, word))

    def test_bad_paper_just_where_there_is_a_fault(self):
        for path in paths(PAPER):
            for new in ODD + ODD_TUPLES + (0, 1, 2, 3, 12, 14):
                thing = replaced(PAPER, path, new)
                fault = paperfault(WORLD, thing)
                if fault is None:
                    self.assertEqual(len(things(WORLD, thing)), len(thing))
                else:
                    with self.assertRaises(BadPaper) as caught:
                        things(WORLD, thing)
                    self.assertEqual((caught.exception.number, caught.exception.word), fault)

    def test_against_what_is_gone_through(self):
        for world, paper in random_papers(81):
            told = things(world, paper)
            born = gone_through(world, max(row[2] for row in told))
            for kind, origin, when in told:
                self.assertLessEqual(born[kind, origin], when)

    def test_rows_are_tuples(self):
        self.assertIsInstance(things(WORLD, PAPER), tuple)
        for row in things(WORLD, PAPER):
            self.assertIsInstance(row, tuple)


class TestShows(unittest.TestCase):
    def test_each_a_little_otherwise(self):
        # The last thing is bud of 8, born at 17, so nine old.
        for kind, origin, age, wanted in (
                ("bud", 8, 9, True), ("bud", 8, 10, True), ("bud", 8, 8, False), ("bud", 8, FAR, True),
                ("bud", 8, 0, False), ("jam", 8, 9, False), ("rye", 8, 20, False), ("bud", 7, 10, False),
                ("bud", 9, 9, False), ("bud", 4, 30, False), ("bud", 12, 30, False), ("bud", -8, 30, False)):
            self.assertIs(shows(WORLD, kind, origin, age, PAPER), wanted, (kind, origin, age))

    def test_only_the_last_row(self):
        self.assertIs(shows(WORLD, "bud", 7, 10, PAPER[:6]), True)
        self.assertIs(shows(WORLD, "bud", 7, 10, PAPER), False)
        self.assertIs(shows(WORLD, "bud", -1, 3, PAPER[:1]), True)
        self.assertIs(shows(WORLD, "bud", -1, 2, PAPER[:1]), False)
        self.assertIs(shows(WORLD, "bud", -1, 3, PAPER), False)

    def test_papers_with_a_fault(self):
        for number in range(6):
            for row in (("brought", 0, 3), ("brought", 7, 2), ("made", 0, 12, (6,)), None, [], ("made", 0, 4, (True,))):
                self.assertIs(shows(WORLD, "bud", 8, 9, replaced(PAPER, (number,), row)), False)
        self.assertIs(shows(WORLD, "bud", 8, 9, PAPER + (("brought", 0, 3),)), False)

    def test_things_that_are_no_paper(self):
        for world in (SMALLEST, WORLD):
            for thing in ODD + ODD_TUPLES + (list(PAPER), {"paper": PAPER}, 3, (PAPER,)):
                self.assertIs(shows(world, world[1][0], 8, FAR, thing), False)

    def test_far(self):
        rounds = (FAR - 8) // 4 * 4
        paper = moved(PAPER, rounds)
        self.assertIs(shows(WORLD, "bud", 8 + rounds, 9, paper), True)
        self.assertIs(shows(WORLD, "bud", 8 + rounds, 8, paper), False)
        self.assertIs(shows(WORLD, "bud", FAR + 1, FAR, paper), False)

    def test_just_what_the_last_thing_is(self):
        for world, paper in random_papers(82, 25):
            kind, origin, born = things(world, paper)[-1]
            for other in world[1]:
                for start in range(origin - 3, origin + 4):
                    for age in range(max(0, born - origin - 2), born - origin + 3):
                        wanted = other == kind and start == origin and age >= born - origin
                        self.assertIs(shows(world, other, start, age, paper), wanted)


class TestMoved(unittest.TestCase):
    def test_by_nought(self):
        self.assertEqual(moved(PAPER, 0), PAPER)

    def test_by_rounds(self):
        for rounds in (1, 2, 7, 10 ** 12):
            paper = moved(PAPER, 4 * rounds)
            self.assertIsNone(paperfault(WORLD, paper))
            wanted = tuple((kind, origin + 4 * rounds, born + 4 * rounds) for kind, origin, born in THINGS)
            self.assertEqual(things(WORLD, paper), wanted)

    def test_by_hand(self):
        self.assertEqual(moved((("brought", 0, 2), ("made", 3, 9, (0, 0))), 5), (("brought", 0, 7), ("made", 3, 14, (0, 0))))
        self.assertEqual(moved((("brought", 0, 2), ("made", 3, 9, (0,))), -7), (("brought", 0, -5), ("made", 3, 2, (0,))))

    def test_back_again(self):
        for moments in (1, 3, 4, 50, -1, -2, -100, LAST, -LAST):
            self.assertEqual(moved(moved(PAPER, moments), -moments), PAPER)

    def test_faults_that_it_brings(self):
        self.assertEqual(paperfault(WORLD, moved(PAPER, 1)), (0, "moment"))
        self.assertEqual(paperfault(WORLD, moved(PAPER, -2)), (0, "moment"))
        self.assertEqual(paperfault(WORLD, moved(PAPER, -3)), (0, "row"))
        self.assertEqual(paperfault(WORLD, moved(PAPER, -4)), (0, "row"))
        # The source of row 1 begins at 8.
        self.assertEqual(paperfault(WORLD, moved(PAPER[1:3] + (("made", 1, 11, (0, 1)),), -4)), (0, "moment"))
        self.assertIsNone(paperfault(WORLD, moved(PAPER[1:3] + (("made", 1, 11, (0, 1)),), 4)))
        self.assertEqual(paperfault(WORLD, moved(PAPER, LAST)), (0, "row"))
        # The last row but one comes beyond LAST, the others don't.
        self.assertIsNone(paperfault(WORLD, moved(PAPER, LAST - 16)))
        self.assertEqual(paperfault(WORLD, moved(PAPER, LAST - 12)), (5, "row"))

    def test_the_paper_stays(self):
        ahead = copy.deepcopy(PAPER)
        told = moved(PAPER, 4)
        self.assertEqual(PAPER, ahead)
        self.assertEqual(told, moved(PAPER, 4))
        self.assertIsInstance(told, tuple)
        for row in told:
            self.assertIsInstance(row, tuple)

    def test_random_ones(self):
        for world, paper in random_papers(83):
            for rounds in (1, 5):
                told = things(world, moved(paper, rounds * world[0]))
                later = rounds * world[0]
                self.assertEqual(told, tuple((k, o + later, b + later) for k, o, b in things(world, paper)))


class TestTrimmed(unittest.TestCase):
    def test_needless_rows_at_the_beginning_and_in_the_middle(self):
        self.assertEqual(trimmed(PAPER), (
            ("brought", 1, 8), ("brought", 0, 10), ("made", 1, 11, (0, 1)), ("made", 2, 14, (2, 2, 0))))
        self.assertEqual(trimmed(PAPER[:6]), (
            ("brought", 1, 8), ("brought", 0, 10), ("made", 1, 11, (0, 1)), ("made", 0, 12, (1,)),
            ("made", 2, 14, (3, 2, 0))))

    def test_the_last_row_alone(self):
        self.assertEqual(trimmed(PAPER[:3]), (("brought", 0, 10),))
        self.assertEqual(trimmed(PAPER[:1]), PAPER[:1])

    def test_nothing_needless(self):
        paper = (("brought", 0, 2), ("made", 0, 4, (0,)))
        self.assertEqual(trimmed(paper), paper)

    def test_the_same_row_twice_stays_twice(self):
        paper = (("brought", 0, 2), ("brought", 0, 2), ("made", 5, 4, (1, 0)))
        self.assertEqual(trimmed(paper), paper)

    def test_rows_with_faults_but_of_the_forms_told(self):
        paper = (("brought", 90, 1), ("brought", 40, 2), ("made", 70, LAST, (1,)))
        self.assertEqual(trimmed(paper), (("brought", 40, 2), ("made", 70, LAST, (0,))))

    def test_trimmed_again_it_stays(self):
        for world, paper in random_papers(84):
            told = trimmed(paper)
            self.assertEqual(trimmed(told), told)
            self.assertIsNone(paperfault(world, told))
            self.assertEqual(things(world, told)[-1], things(world, paper)[-1])

    def test_each_row_left_is_gone_back_to(self):
        for world, paper in random_papers(85):
            told = trimmed(paper)
            reached = {len(told) - 1}
            for k in range(len(told) - 1, -1, -1):
                self.assertIn(k, reached)
                if told[k][0] == "made":
                    reached.update(told[k][3])

    def test_a_long_chain(self):
        rows = [("brought", 0, 0)]
        for k in range(1500):
            rows += [("brought", 0, k), ("made", 0, k, (2 * k,))]
        told = trimmed(tuple(rows))
        self.assertEqual(len(told), 1501)
        self.assertEqual(told[-1], ("made", 0, 1499, (1499,)))

    def test_the_paper_stays(self):
        ahead = copy.deepcopy(PAPER)
        self.assertEqual(trimmed(PAPER), trimmed(PAPER))
        self.assertEqual(PAPER, ahead)
        self.assertIsInstance(trimmed(PAPER), tuple)


if __name__ == "__main__":
    unittest.main()
