"""[30] world_text and read_world."""

import random
import unittest

from rightage.bounds import SINCE
from rightage.errors import NoText
from rightage.texts import read_world, world_text
from tests.byhand import SLOW
from tests.samples import HUGE, LARGEST, ODD_TUPLES, PLAIN, SMALLEST, replaced, worlds_of_all_sizes

PLAIN_TEXT = "\n".join((
    "round 4",
    "kinds bud jam rye",
    "source bud 3 2 5 4",
    "source rye 0 0 0 1",
    "way jam oldest 0,3 2 bud 1 7 rye 0 4",
    "way jam youngest 1 1 jam 2 9",
))


def with_line(text, number, line):
    lines = text.split("\n")
    lines[number] = line
    return "\n".join(lines)


class TestWritten(unittest.TestCase):
    def test_by_hand(self):
        self.assertEqual(world_text(PLAIN), PLAIN_TEXT)
        self.assertEqual(world_text(SMALLEST), "round 1\nkinds a")
        world = (6, ("a", "b"), (), (("b", (("a", 0, 0), ("b", 20, 20), ("a", 7, 13)), "youngest", (), 6),))
        self.assertEqual(world_text(world), "round 6\nkinds a b\nway b youngest - 6 a 0 0 b 20 20 a 7 13")
        world = (6, ("abcdefgh",), (("abcdefgh", 20, 5, SINCE, 9),), (("abcdefgh", (("abcdefgh", 0, 20),), "oldest", (0, 1, 2, 3, 4, 5), 1),))
        self.assertEqual(world_text(world), "round 6\nkinds abcdefgh\nsource abcdefgh 20 5 1000000 9\n"
                                            "way abcdefgh oldest 0,1,2,3,4,5 1 abcdefgh 0 20")

    def test_largest(self):
        lines = world_text(LARGEST).split("\n")
        self.assertEqual(len(lines), 16)
        self.assertEqual(lines[2], "source zzzzzzzz 20 5 1000000 9")
        self.assertEqual(lines[15], "way zzzzzzzz youngest 0,1,2,3,4,5 6" + " zzzzzzzz 20 20" * 3)
        self.assertLess(len(world_text(LARGEST)), 4000)

    def test_and_read_again(self):
        texts = set()
        for world in worlds_of_all_sizes() + list(SLOW):
            text = world_text(world)
            self.assertEqual(read_world(text), world)
            self.assertEqual(world_text(read_world(text)), text)
            texts.add(text)
        self.assertEqual(len(texts), len(set(worlds_of_all_sizes() + list(SLOW))))

    def test_told_as_tuples(self):
        world = read_world(PLAIN_TEXT)
        self.assertEqual(world, PLAIN)
        for path in ((), (1,), (2,), (2, 0), (3,), (3, 0), (3, 0, 1), (3, 0, 1, 0), (3, 0, 3)):
            there = world
            for at in path:
                there = there[at]
            self.assertIs(type(there), tuple)


class TextCase(unittest.TestCase):
    def refused(self, text, line):
        with self.assertRaises(NoText) as caught:
            read_world(text)
        self.assertEqual(caught.exception.line, line, repr(text))
        self.assertIs(type(caught.exception.line), type(line))

    def line_refused(self, number, line, text=PLAIN_TEXT):
        """The text with that line is refused there, whatever stands behind it."""
        self.refused(with_line(text, number, line), number)
        self.refused("\n".join(text.split("\n")[:number] + [line]), number)
        self.refused("\n".join(text.split("\n")[:number] + [line, "", "round"]), number)


class TestNoText(TextCase):
    def test_no_text(self):
        things = [None, True, False, 0, 7, HUGE, -HUGE, [], {}, (), [PLAIN_TEXT], (PLAIN_TEXT,), {"round": "4"}, PLAIN, ("round 4",)]
        for thing in things + list(ODD_TUPLES) + [PLAIN_TEXT.split("\n")]:
            self.refused(thing, None)

    def test_lines_lack(self):
        self.refused("round 4", 1)
        self.refused("round 1", 1)
        # An empty text is one line, an empty one.
        self.refused("", 0)
        self.refused("\n", 0)
        self.refused("round 4\n", 1)
        for number in range(2, 7):
            text = "\n".join(PLAIN_TEXT.split("\n")[:number])
            self.assertEqual(world_text(read_world(text)), text)

    def test_a_line_end_at_the_end(self):
        for world in (PLAIN, SMALLEST, LARGEST):
            text = world_text(world)
            self.refused(text + "\n", len(text.split("\n")))
            self.refused(text + "\n\n", len(text.split("\n")))
            self.refused("\n" + text, 0)
        for number in range(6):
            lines = PLAIN_TEXT.split("\n")
            self.refused("\n".join(lines[:number] + [""] + lines[number:]), number)

    def test_other_texts(self):
        for text in ("x" * 400, "x" * 4000, "round", "round four", "Round 4", "4", " ", "round 4 kinds a", "kinds a\nround 4",
                     "a\nb\nc", "\t", "round\t4\nkinds a", "1" * 4000, "round " + "1" * 3990):
            self.refused(text, 0)

    def test_other_line_ends_and_signs(self):
        self.refused(PLAIN_TEXT.replace("\n", "\r\n"), 0)
        self.refused(PLAIN_TEXT.replace("\n", "\r"), 0)
        self.refused(PLAIN_TEXT.replace("\n", "\x0b"), 0)
        self.refused(PLAIN_TEXT.replace("\n", "\x85"), 0)
        self.refused(PLAIN_TEXT.replace("\n", "\u2028"), 0)
        self.refused(PLAIN_TEXT + "\r", 5)
        for sign in ("\t", "\x00", "\x0c", chr(37), "\u00e9", "\u00a0", "\u0663", "\u00b2", "~", "!"):
            for number, line in enumerate(PLAIN_TEXT.split("\n")):
                for at in (0, len(line) // 2, len(line)):
                    self.line_refused(number, line[:at] + sign + line[at:])
                self.line_refused(number, line.replace(" ", sign))
        # Figures of other scripts are none.
        self.line_refused(0, "round \u0664")
        self.line_refused(3, "source rye 0 0 \u0660 1")
        self.line_refused(3, "source rye 0 0 0 \u00b9")


class TestEachLine(TextCase):
    def test_round(self):
        for line in ("round 0", "round 7", "round -1", "round -0", "round 04", "round +4", "round", "round ", "round  4", "round 4 ",
                     " round 4", "round 4 4", "Round 4", "rounds 4", "round four", "round 1000000000000", "kinds a", "4", "round 4.", "round 1_0"):
            self.line_refused(0, line)
        for span in range(1, 7):
            self.assertEqual(read_world(f"round {span}\nkinds a"), (span, ("a",), (), ()))
        # The round goes, the place of a source doesn't.
        self.refused(with_line(PLAIN_TEXT, 0, "round 2"), 2)
        self.refused(with_line(PLAIN_TEXT, 0, "round 3"), 4)
        self.assertEqual(read_world(with_line(PLAIN_TEXT, 0, "round 5")), replaced(PLAIN, (0,), 5))

    def test_kinds(self):
        for line in ("kinds", "kinds ", "kinds  a", "kinds a  b", "kinds a ", " kinds a", "Kinds a", "kind a", "kinds b a", "kinds a a",
                     "kinds A", "kinds a1", "kinds a,b", "kinds abcdefghi", "kinds a b c d e", "kinds -", "round 4", "source bud 3 2 5 4",
                     "kinds a B", "kinds bud rye jam", "kinds 1", ""):
            self.line_refused(1, line)
        self.assertEqual(read_world("round 4\nkinds a aa aaa b")[1], ("a", "aa", "aaa", "b"))
        self.refused(with_line(PLAIN_TEXT, 1, "kinds jam rye"), 2)
        self.refused(with_line(PLAIN_TEXT, 1, "kinds bud rye"), 4)
        self.refused(with_line(PLAIN_TEXT, 1, "kinds bud jam"), 3)

    def test_source(self):
        good = ["source", "bud", "3", "2", "5", "4"]
        for at, words in (
                (0, ("Source", "sources", "src", "", "bring", "round", "kinds")),
                (1, ("oat", "Bud", "", "bu", "budd", "3", "-")),
                (2, ("-1", "21", "03", "-0", "", "x", "-", "+3", "99999999999999999999")),
                (3, ("4", "-1", "02", "-0", "", "x", "2,3")),
                (4, ("-1", "1000001", "05", "-0", "00", "", "x", "1e3", "1_0", "5.0")),
                (5, ("0", "10", "-4", "04", "", "x", "-0"))):
            for word in words:
                self.line_refused(2, " ".join(good[:at] + [word] + good[at + 1:]))
        for line in ("source", "source bud", "source bud 3 2 5", "source bud 3 2 5 4 1", "source  bud 3 2 5 4", "source bud 3 2 5 4 ",
                     " source bud 3 2 5 4", "source bud 3 2  5 4", "source bud,3,2,5,4"):
            self.line_refused(2, line)
        for line, row in (("source bud 0 0 0 1", ("bud", 0, 0, 0, 1)), ("source rye 20 3 1000000 9", ("rye", 20, 3, SINCE, 9))):
            self.assertEqual(read_world(with_line(PLAIN_TEXT, 2, line)), replaced(PLAIN, (2, 0), row))

    def test_way(self):
        good = "way jam oldest 0,3 2 bud 1 7 rye 0 4".split(" ")
        for at, words in (
                (0, ("Way", "ways", "", "source", "round")),
                (1, ("oat", "Jam", "", "ja", "1")),
                (2, ("Oldest", "old", "", "eldest", "oldestt", "0", "-")),
                (3, ("", ",", "0,", ",3", "0,,3", "3,0", "0,0", "0,4", "4", "-1", "0,-1", "00,3", "0,03", "-,0", "--", "-0", "0;3", "x", "0,x",
                     "0,1,2,3,4", "(0,3)", "0.3")),
                (4, ("0", "7", "-2", "02", "-0", "", "x")),
                (5, ("oat", "Bud", "", "1")),
                (6, ("-1", "8", "21", "01", "-0", "", "x")),
                (7, ("0", "21", "-7", "07", "", "x")),
                (8, ("oat", "", "Rye")),
                (9, ("-1", "5", "00", "", "x")),
                (10, ("-4", "21", "04", "", "x"))):
            for word in words:
                self.line_refused(4, " ".join(good[:at] + [word] + good[at + 1:]))
        for many in (1, 2, 3, 4, 5, 6, 7, 9, 10):
            self.line_refused(4, " ".join(good[:many]))
        for line in ("way jam oldest 0,3 2 bud 1 7 rye 0 4 rye 0 4 rye 0 4", "way jam oldest 0,3 2 bud 1 7 rye 0 4 rye",
                     "way jam oldest 0,3 2  bud 1 7", "way jam oldest 0,3 2 bud 1 7 ", " way jam oldest 0,3 2 bud 1 7", "way",
                     "way jam oldest 0, 3 2 bud 1 7", "way jam oldest  0,3 2 bud 1 7"):
            self.line_refused(4, line)
        for line, way in (
                ("way bud youngest - 6 rye 0 20", ("bud", (("rye", 0, 20),), "youngest", (), 6)),
                ("way bud oldest 0,1,2,3 1 rye 20 20 rye 0 0 jam 7 7",
                 ("bud", (("rye", 20, 20), ("rye", 0, 0), ("jam", 7, 7)), "oldest", (0, 1, 2, 3), 1))):
            self.assertEqual(read_world(with_line(PLAIN_TEXT, 4, line)), replaced(PLAIN, (3, 0), way))

    def test_out_of_order(self):
        lines = PLAIN_TEXT.split("\n")
        # A source behind a way.
        self.refused("\n".join(lines + ["source bud 3 2 5 4"]), 6)
        self.refused("\n".join(lines[:3] + [lines[4], lines[3], lines[5]]), 4)
        self.refused("\n".join(lines[:2] + [lines[5], lines[2]]), 3)
        self.refused("\n".join(lines[:1] + [lines[2], lines[1]]), 1)
        self.refused("\n".join(lines + ["round 4"]), 6)
        self.refused("\n".join(lines + ["kinds bud"]), 6)
        self.refused("\n".join(lines[:2] + ["kinds bud jam rye"]), 2)
        self.refused("\n".join(lines[::-1]), 0)
        # Other orders of sources, or of ways, are other worlds.
        other = read_world("\n".join(lines[:2] + [lines[3], lines[2], lines[5], lines[4]]))
        self.assertEqual(other, PLAIN[:2] + (PLAIN[2][::-1], PLAIN[3][::-1]))

    def test_a_seventh_source_and_a_ninth_way(self):
        lines = world_text(LARGEST).split("\n")
        self.refused("\n".join(lines[:8] + [lines[2]] + lines[8:]), 8)
        self.refused("\n".join(lines[:8] + [lines[2]]), 8)
        self.refused("\n".join(lines + [lines[8]]), 16)
        self.refused("\n".join(lines[:2] + lines[8:] + [lines[8]]), 10)
        self.refused("\n".join(lines[:2] + [lines[2]] * 100), 8)

    def test_each_word_of_each_line_spoilt(self):
        lines = PLAIN_TEXT.split("\n")
        for number, line in enumerate(lines):
            words = line.split(" ")
            for at in range(len(words)):
                for word in ("", "-", "?", "Oldest", "-1", "00", "1e1", "zebra", "100000000", "0" + words[at], words[at] + " ", words[at] + "\t",
                             " " + words[at], words[at] + ",", words[at] + "."):
                    # At one place "-" is a word: where there are no hours; and other kinds may have that name.
                    if (word, words[0], at) == ("-", "way", 3) or (word == "zebra" and words[0] == "kinds" and at == 3):
                        continue
                    self.line_refused(number, " ".join(words[:at] + [word] + words[at + 1:]))
                if number not in (0, 1) or at == 0:
                    self.line_refused(number, " ".join(words[:at] + words[at + 1:]))

    def test_the_first_line_is_told(self):
        lines = PLAIN_TEXT.split("\n")
        dice = random.Random(301)
        for k in range(200):
            spoilt = sorted(dice.sample(range(6), dice.randint(1, 3)))
            text = "\n".join(line + " x" if number in spoilt and number != 1 else "kind" if number in spoilt else line
                             for number, line in enumerate(lines))
            self.refused(text, spoilt[0])

    def test_nothing_is_changed_and_the_same_answer(self):
        thing = [PLAIN_TEXT]
        for turn in range(2):
            self.refused(thing, None)
            self.refused(PLAIN_TEXT + "\n", 6)
            self.assertEqual(read_world(PLAIN_TEXT), PLAIN)
        self.assertEqual(thing, [PLAIN_TEXT])


if __name__ == "__main__":
    unittest.main()
