"""[31] Desk and its lines."""

import random
import unittest

from rightage.bounds import FAR
from rightage.desks import Desk
from rightage.errors import NoDeed
from rightage.halls import Hall
from rightage.least import ready
from rightage.mosts import most
from rightage.verdicts import verdict
from rightage.wishes import first_wish
from tests.hallsamples import WORLD, full_hall, state
from tests.samples import HUGE, LARGEST, ODD, ODD_TUPLES, PLAIN, SMALLEST

# Each is a line, whatever is answered.
LINES = (
    "bring ale 1 1 3 9", "way ale oldest 0 1 bun 4 5", "way cod youngest 0,1 2 ale 0 1 bun 2 3 cod 4 5", "way cod eldest - 2 ale 0 1 bun 2 3",
    "stop 0", "shut 1", "hours 0 -", "hours 1 0,1", "window 0 1 2 3", "back", "ready ale 4", "first ale 0 9", "first ale 0 9 bun 1 60",
    "first ale 0 9 bun 1 60 cod 2 60", "first ale 0 9 bun 1 60 cod 2 60 ale 1 1", "most cod 0 7", "rows cod 4 9", "kinds")


class DeskCase(unittest.TestCase):
    def says(self, hall, line, answer):
        told = Desk(hall).say(line)
        self.assertEqual(told, answer, line)
        self.assertIs(type(told), str)

    def refused(self, hall, line, answer):
        """So answered, and all is as it was."""
        ahead = state(hall)
        self.says(hall, line, answer)
        self.assertEqual(state(hall), ahead)

    def no_line(self, line):
        self.refused(Hall(WORLD), line, "no line")


class TestDeeds(DeskCase):
    def test_each(self):
        for line, deed in (
                ("bring ale 1 1 3 9", ("bring", ("ale", 1, 1, 3, 9))),
                ("way ale oldest 0 1 bun 4 5", ("way", ("ale", (("bun", 4, 5),), "oldest", (0,), 1))),
                ("way cod youngest 0,1 2 ale 0 1 bun 2 3", ("way", ("cod", (("ale", 0, 1), ("bun", 2, 3)), "youngest", (0, 1), 2))),
                ("way cod youngest - 6 ale 0 1 bun 2 3 cod 4 20",
                 ("way", ("cod", (("ale", 0, 1), ("bun", 2, 3), ("cod", 4, 20)), "youngest", (), 6))),
                ("stop 0", ("stop", 0)), ("stop 1", ("stop", 1)), ("shut 2", ("shut", 2)), ("hours 0 -", ("hours", 0, ())),
                ("hours 2 0,1", ("hours", 2, (0, 1))), ("hours 1 0", ("hours", 1, (0,))), ("window 0 1 2 3", ("window", 0, 1, 2, 3)),
                ("window 1 0 0 20", ("window", 1, 0, 0, 20))):
            hall = Hall(WORLD)
            desk = Desk(hall)
            self.assertEqual(desk.say(line), "done")
            beside = Hall(WORLD)
            beside.tried([deed])
            self.assertEqual(hall.deeds(), (deed,))
            self.assertEqual(hall, beside)
            self.assertEqual(hall.log(), ())
            self.assertEqual(desk.say("back"), "done")
            self.assertEqual(hall.deeds(), ())
            self.assertEqual(hall.world(), WORLD)
            self.assertEqual(desk.say("back"), "no NothingBack")

    def test_refused(self):
        hall = Hall(WORLD)
        for line, answer in (
                ("bring dip 0 0 0 1", "BadWorld"), ("bring ale 21 0 0 1", "BadWorld"), ("bring ale 0 2 0 1", "BadWorld"),
                ("bring ale 0 0 1000001 1", "BadWorld"), ("bring ale 0 0 0 0", "BadWorld"), ("bring ale -1 0 0 1", "BadWorld"),
                ("way dip oldest 0 1 ale 0 1", "BadWorld"), ("way ale eldest 0 1 ale 0 1", "BadWorld"),
                ("way ale oldestandgreatest 0 1 ale 0 1", "BadWorld"), ("way ale oldest 2 1 ale 0 1", "BadWorld"),
                ("way ale oldest 1,0 1 ale 0 1", "BadWorld"), ("way ale oldest 0,0 1 ale 0 1", "BadWorld"),
                ("way ale oldest -1 1 ale 0 1", "BadWorld"), ("way ale oldest 0 7 ale 0 1", "BadWorld"),
                ("way ale oldest 0 0 ale 0 1", "BadWorld"), ("way ale oldest 0 1 dip 0 1", "BadWorld"), ("way ale oldest 0 1 ale 2 1", "BadWorld"),
                ("stop 2", "NoSource"), ("stop -1", "NoSource"), ("stop 9999999999999999", "NoSource"), ("shut 3", "NoWay"), ("shut -1", "NoWay"),
                ("hours 3 0", "NoWay"), ("hours -1 7,7,7", "NoWay"), ("hours 0 2", "BadWorld"), ("hours 0 1,0", "BadWorld"),
                ("hours 0 0,0", "BadWorld"), ("hours 0 -1,0", "BadWorld"), ("window 3 0 0 1", "NoWay"), ("window 0 2 0 1", "NoPart"),
                ("window 0 -1 0 1", "NoPart"), ("window 1 1 9 1", "NoPart"), ("window 1 0 2 1", "BadWorld"), ("window 1 0 0 21", "BadWorld"),
                ("window 1 0 -1 1", "BadWorld"), ("back", "NothingBack")):
            self.refused(hall, line, "no " + answer)

    def test_too_many(self):
        hall = full_hall()
        for line in LINES[:9] + ("stop 9", "bring dip 0 0 0 1"):
            self.refused(hall, line, "no Long")
        self.says(hall, "back", "done")
        self.says(hall, "stop 0", "done")
        self.refused(hall, "stop 0", "no Long")
        full = Hall(LARGEST)
        self.refused(full, "bring a 0 0 0 1", "no BadWorld")
        self.refused(full, "way a oldest 0 1 a 0 1", "no BadWorld")

    def test_beside_the_halls_own_deeds(self):
        hall = Hall(WORLD)
        desk, other = Desk(hall), Desk(hall)
        hall.stop(0)
        self.assertEqual(desk.say("stop 1"), "no NoSource")
        self.assertEqual(other.say("bring ale 0 0 0 1"), "done")
        hall.back()
        self.assertEqual(desk.say("back"), "done")
        self.assertEqual(desk.say("back"), "no NothingBack")
        self.assertEqual(hall.world(), WORLD)
        hall.tried([("hours", 0, ()), ("hours", 1, ())])
        self.assertEqual(other.say("back"), "done")
        self.assertEqual(hall.deeds(), (("hours", 0, ()),))
        twin = hall.twin()
        self.assertEqual(Desk(twin).say("shut 0"), "done")
        self.assertEqual(len(hall), 1)


class TestQuestions(DeskCase):
    def test_ready(self):
        for world in (WORLD, PLAIN):
            hall = Hall(world)
            for kind in world[1]:
                for origin in (-FAR, -20, -3, 0, 1, 2, 3, 17, FAR):
                    age = ready(world, kind, origin)
                    self.refused(hall, f"ready {kind} {origin}", "never" if age is None else str(age))
        self.says(Hall(WORLD), "ready bun 0", "4")
        self.says(Hall(WORLD), "ready bun -5", "never")

    def test_first(self):
        hall = Hall(WORLD)
        self.says(hall, "first ale 3 3", "3")
        self.says(hall, "first bun 0 0", "never")
        for line, wish in (
                ("first cod 0 60", (("cod", 0, 60),)), ("first ale 0 0 bun 4 4", (("ale", 0, 0), ("bun", 4, 4))),
                ("first ale 0 0 ale 1 1", (("ale", 0, 0), ("ale", 1, 1))),
                ("first ale 0 9 bun 1 60 cod 2 60 ale 1 1", (("ale", 0, 9), ("bun", 1, 60), ("cod", 2, 60), ("ale", 1, 1)))):
            moment = first_wish(WORLD, wish)
            self.refused(hall, line, "never" if moment is None else str(moment))
        for line in ("first dip 0 1", "first ale -1 1", "first ale 2 1", "first ale 0 61", "first ale 0 1 dip 0 1", "first ale 61 61",
                     "first ale 0 9 bun 1 60 cod 2 60 ale 1 0", "first ale 0 9999999999999999"):
            self.refused(hall, line, "no BadWish")

    def test_most(self):
        hall = Hall(WORLD)
        for kind in WORLD[1]:
            for least, greatest in ((0, 7), (0, 0), (7, 7), (3, 5)):
                above, below = most(WORLD, (kind, least, greatest))[0]
                self.refused(hall, f"most {kind} {least} {greatest}", f"{above}/{below}")
        self.says(Hall(SMALLEST), "most a 0 7", "0/1")
        mill = (1, ("ale", "bun"), (("ale", 0, 0, 0, 3),), (("bun", (("ale", 1, 1), ("ale", 1, 2)), "oldest", (0,), 1),))
        self.says(Hall(mill), "most bun 0 7", "3/2")
        for line in ("most dip 0 7", "most ale 0 8", "most ale -1 7", "most ale 2 1", "most ale 8 8"):
            self.refused(hall, line, "no BadWish")
            self.refused(Hall(PLAIN), line, "no NotNarrow")
        self.refused(Hall(PLAIN), "most bud 0 7", "no NotNarrow")

    def test_rows(self):
        for world in (WORLD, PLAIN):
            hall = Hall(world)
            for kind in world[1]:
                for origin in (-FAR, -3, 0, 3, 4, FAR):
                    for age in (0, 3, 6, 26, FAR):
                        word, proof = verdict(world, kind, origin, age)
                        self.refused(hall, f"rows {kind} {origin} {age}", str(len(proof)) if word == "rows" else "never")
        self.says(Hall(WORLD), "rows ale 0 0", "1")
        self.says(Hall(WORLD), "rows bun 0 4", "2")
        self.says(Hall(WORLD), "rows bun 0 3", "never")

    def test_kinds(self):
        for world in (WORLD, PLAIN, SMALLEST, LARGEST):
            self.refused(Hall(world), "kinds", " ".join(world[1]))
        self.says(Hall(WORLD), "kinds", "ale bun cod")

    def test_of_the_world_as_it_is(self):
        hall = Hall(WORLD)
        desk = Desk(hall)
        self.assertEqual(desk.say("most ale 0 7"), "4/1")
        self.assertEqual(desk.say("bring ale 0 0 0 3"), "done")
        self.assertEqual(desk.say("most ale 0 7"), "7/1")
        hall.back()
        self.assertEqual(desk.say("most ale 0 7"), "4/1")
        hall.stop(0)
        self.assertEqual(desk.say("ready ale 0"), "never")
        self.assertEqual(desk.say("first ale 0 60"), "never")
        self.assertEqual(desk.say("rows ale 0 9"), "never")

    def test_no_kind_and_no_number(self):
        hall = Hall(WORLD)
        far = FAR + 1
        most_figures = "9" * 16
        for kind, no_kind in (("ale", False), ("cod", False), ("dip", True), ("alee", True), ("abcdefgh", True)):
            for origin, no_origin in ((0, False), (FAR, False), (-FAR, False), (far, True), (-far, True), (most_figures, True), ("-" + most_figures, True)):
                wanted = "no NoKind" if no_kind else "no NoNumber" if no_origin else None
                if wanted is None:
                    self.assertNotIn("no", Desk(hall).say(f"ready {kind} {origin}"))
                else:
                    self.refused(hall, f"ready {kind} {origin}", wanted)
                for age, no_age in ((0, False), (FAR, False), (-1, True), (far, True), (most_figures, True)):
                    wanted = "no NoKind" if no_kind else "no NoNumber" if no_origin or no_age else None
                    if wanted is None:
                        self.assertNotIn("no", Desk(hall).say(f"rows {kind} {origin} {age}"))
                    else:
                        self.refused(hall, f"rows {kind} {origin} {age}", wanted)


class TestNoLine(DeskCase):
    def test_no_texts(self):
        for thing in ODD + ODD_TUPLES + (["kinds"], ("kinds",), {"kinds": 1}, ("stop", 0), 0, b"kinds"):
            self.no_line(thing)

    def test_lines_are_lines(self):
        for line in LINES:
            self.assertNotEqual(Desk(Hall(WORLD)).say(line), "no line")

    def test_one_word_more_or_fewer(self):
        for line in LINES:
            words = line.split(" ")
            for more in ("0", "ale", "-", "x"):
                if not line.startswith("first") or more != "0":
                    self.no_line(line + " " + more)
            for at in range(len(words)):
                fewer = words[:at] + words[at + 1:]
                self.no_line(" ".join(fewer))

    def test_too_many_parts_and_items(self):
        self.no_line("way cod oldest 0 1" + " ale 0 1" * 4)
        self.no_line("way cod oldest 0 1")
        self.no_line("first" + " ale 0 1" * 5)
        self.no_line("first")
        self.no_line("most ale 0 1 ale 0 1")
        self.no_line("back back")
        self.no_line("kinds ale")
        self.no_line("stop 0 1")

    def test_blanks(self):
        for line in LINES:
            self.no_line(" " + line)
            self.no_line(line + " ")
            self.no_line(line + "\n")
            self.no_line("\n" + line)
            self.no_line(line + "\r\n")
            words = line.split(" ")
            for at in range(1, len(words)):
                for sign in ("  ", "\t", "\n", "", "\u00a0"):
                    self.no_line(" ".join(words[:at]) + sign + " ".join(words[at:]))
        for line in ("", " ", "\n", "-", "0"):
            self.no_line(line)

    def test_another_word(self):
        for line in LINES:
            words = line.split(" ")
            self.no_line(line.upper())
            self.no_line(line.title())
            for word in ("", "say", "x", words[0] + "s" if words[0] != "hour" else "x", words[0][:-1], "tried", "twin", "log", "world", "deeds",
                         "table", "verdict", "changed", "done", "no", "0"):
                self.no_line(" ".join([word] + words[1:]))

    def test_each_word_spoilt(self):
        for line in LINES:
            words = line.split(" ")
            for at in range(1, len(words)):
                for word in ("", "?", "Ale", "a1", "+1", "1.0", "0x1", "1_0", "--1", "-0", "01", "-01", "00", "1-", "\u0661", "\u00b2", "," , "1,",
                             ",1", "1,,2", "0,-0", "-,1", "1" * 17, "-" + "1" * 17, "0" * 16, "1" * 390, "ale,", "a-b", "\u00e9"):
                    self.no_line(" ".join(words[:at] + [word] + words[at + 1:]))

    def test_kinds_of_words_in_each_place(self):
        # A number for a kind and a kind for a number are no line; hours are one word.
        self.no_line("ready 3 4")
        self.no_line("ready ale ale")
        self.no_line("stop ale")
        self.no_line("stop -")
        self.no_line("stop 0,1")
        self.no_line("ready ale 0,1")
        self.no_line("hours 0,1 0")
        self.no_line("hours - 0")
        self.no_line("hours 0 ale")
        self.no_line("hours 0 0, 1")
        self.no_line("hours 0 0 1")
        self.no_line("way cod 0 0 1 ale 0 1")
        self.no_line("way cod - 0 1 ale 0 1")
        self.no_line("way cod oldest oldest 1 ale 0 1")
        self.no_line("way 1 oldest 0 1 ale 0 1")
        self.no_line("way cod old,est 0 1 ale 0 1")
        self.no_line("bring 0 0 0 0 1")
        self.no_line("bring ale - 0 0 1")

    def test_figures(self):
        hall = Hall(WORLD)
        for word in ("1" * 16, "-" + "1" * 16, "9" * 16, "1000000000000000"):
            self.says(hall, "stop " + word, "no NoSource")
            self.says(hall, "hours 0 " + word, "no BadWorld")
            self.says(hall, "hours 0 " + ",".join([word] * 3), "no BadWorld")
            self.says(hall, f"window 0 0 {word} {word}", "no BadWorld")
            self.says(hall, f"bring ale {word} 0 0 1", "no BadWorld")
        for word in ("1" * 17, "-" + "1" * 17, "01", "00", "-0", "-", "--1", "0" * 16, "-01", ""):
            self.no_line("stop " + word)
            self.no_line(f"hours 0 0,{word}")
            self.no_line(f"window 0 0 {word} 1")
        self.says(hall, "stop -1", "no NoSource")

    def test_hours(self):
        hall = Hall(WORLD)
        for word in (",", ",0", "0,", "0,,1", "-,", ",-", "-,0", "0,-", "--", "0;1", "0,01", "(0)", "0,1,"):
            self.no_line("hours 0 " + word)
            self.no_line(f"way cod oldest {word} 1 ale 0 1")
        # Handed on just as they stand.
        for word in ("1,0", "0,0", "2", "-1", "0,-1", "0,1,2,3,4,5,6,7,8"):
            self.refused(hall, "hours 0 " + word, "no BadWorld")
            self.refused(hall, f"way cod oldest {word} 1 ale 0 1", "no BadWorld")
        self.says(hall, "hours 0 -", "done")
        self.says(hall, "hours 0 1", "done")
        self.assertEqual(hall.deeds(), (("hours", 0, ()), ("hours", 0, (1,))))

    def test_names(self):
        hall = Hall(WORLD)
        self.says(hall, "ready abcdefgh 0", "no NoKind")
        self.no_line("ready abcdefghi 0")
        self.no_line("bring abcdefghi 0 0 0 1")
        self.no_line("way abcdefghi oldest 0 1 ale 0 1")
        self.no_line("way ale oldest 0 1 abcdefghi 0 1")
        self.no_line("first abcdefghi 0 1")
        self.no_line("most abcdefghi 0 1")
        self.no_line("rows abcdefghi 0 1")
        # How a way keeps is a word of small letters, however many.
        self.says(hall, f"way ale {'x' * 300} 0 1 ale 0 1", "no BadWorld")
        self.says(hall, "way ale o 0 1 ale 0 1", "no BadWorld")
        self.no_line("way ale Oldest 0 1 ale 0 1")

    def test_long_lines(self):
        for line in ("x" * 400, "1" * 400, "stop " + "1" * 395, "hours 0 " + "0," * 190, " " * 400, "first " + "ale 0 1 " * 49):
            self.no_line(line)


class TestWithinTell(DeskCase):
    def test_busy(self):
        heard = []

        def tell(hall):
            desk = Desk(hall)
            for line in LINES[:10] + ("stop 9", "shut 9", "bring dip 0 0 0 1", "hours 9 9"):
                ahead = state(hall)
                self.assertEqual(desk.say(line), "no Busy")
                self.assertEqual(state(hall), ahead)
            beside = Desk(hall.twin())
            for line in LINES[10:] + ("ready dip 0", "rows ale 0 -1", "x"):
                self.assertEqual(desk.say(line), beside.say(line))
                heard.append(desk.say(line))
            self.assertEqual(desk.say("x"), "no line")
            self.assertEqual(beside.say("back"), "done")
        hall = Hall(WORLD)
        hall.tried([("stop", 1), ("hours", 0, (0,))], tell=tell)
        self.assertEqual(len(hall), 2)
        self.assertNotIn("no Busy", heard)
        self.says(hall, "back", "done")

    def test_a_row_of_deeds_that_is_refused(self):
        hall = Hall(WORLD)
        answers = []
        with self.assertRaises(NoDeed):
            hall.tried([("stop", 0), None], tell=lambda told: answers.append(Desk(told).say("ready ale 0")))
        self.assertEqual(answers, ["never"])
        self.says(hall, "ready ale 0", "0")


class TestAll(DeskCase):
    def test_the_same_answer(self):
        hall = Hall(WORLD)
        for line in LINES[10:]:
            self.assertEqual(Desk(hall).say(line), Desk(hall).say(line))

    def test_nothing_is_changed(self):
        thing = ["kinds", {"a": [1]}]
        self.no_line(thing)
        self.assertEqual(thing, ["kinds", {"a": [1]}])

    def test_random_words(self):
        # Whatever is said, a text is answered, and only what is done changes the hall.
        dice = random.Random(311)
        words = ("bring way stop shut hours window back ready first most rows kinds ale bun cod dip oldest youngest eldest 0 1 2 3 5 9 -1 - 0,1 1,0 "
                 "00 x? " + str(HUGE)).split(" ")
        answers = set()
        hall = Hall(WORLD)
        for k in range(6000):
            line = " ".join(dice.choices(words, k=dice.choice((1, 2, 2, 3, 4, 4, 6, 8))))
            ahead = (hall.world(), hall.deeds())
            told = Desk(hall).say(line)
            self.assertIs(type(told), str)
            if told != "done":
                self.assertEqual((hall.world(), hall.deeds()), ahead)
            answers.add(told)
        self.assertGreater(len(answers), 8)


if __name__ == "__main__":
    unittest.main()
