"""[90] Texts of wordings."""

import random
import unittest

from agewords.errors import BadText
from agewords.wordings import Row, Wording
from tests.walked import built, small_wordings

GOOD = "60 - down now\n3600 60 up m\n- 3600 near h"


class Writing(unittest.TestCase):

    def test_lines(self):
        wording = Wording([Row(60, None, "down", "now"), Row(3600, 60, "up", "m"), Row(None, 3600, "near", "h")])
        self.assertEqual(str(wording), GOOD)

    def test_no_line_feed_behind_the_last_line(self):
        self.assertEqual(str(Wording([Row(None, None, "near", "now")])), "- - near now")

    def test_the_way_of_a_row_without_a_unit(self):
        for way in ("down", "up", "near"):
            self.assertEqual(str(Wording([Row(None, None, way, "now")])), f"- - {way} now")
            self.assertEqual(Wording.read(f"- - {way} now").rows[0].way, way)

    def test_great_numbers(self):
        for number in (10 ** 31 - 1, 10 ** 30, 10 ** 64, 10 ** 64 - 1, 7 * 10 ** 200 + 3):
            wording = Wording([Row(number, number, "up", "m"), Row(None, number, "up", "h")])
            self.assertEqual(str(wording), f"{number} {number} up m\n- {number} up h")


class Reading(unittest.TestCase):

    def test_right_text(self):
        self.assertEqual(Wording.read(GOOD).rows,
                         (Row(60, None, "down", "now"), Row(3600, 60, "up", "m"), Row(None, 3600, "near", "h")))

    def test_kinds(self):
        wording = Wording.read(GOOD)
        self.assertIs(type(wording), Wording)
        self.assertIs(type(wording.rows), tuple)
        self.assertEqual([type(value) for value in vars(wording.rows[1]).values()], [int, int, str, str])

    def test_more_spaces(self):
        text = "   60  -    down now \n3600 60 up   m\n   -  3600 near    h    "
        self.assertEqual(Wording.read(text), Wording.read(GOOD))

    def test_what_is_written_is_read(self):
        for rows in small_wordings(90, 300):
            self.assertEqual(Wording.read(str(built(rows))), built(rows))

    def test_six_lines(self):
        text = "1 1 up a\n2 1 up b\n3 1 up c\n4 1 up d\n5 1 up e\n- 1 up f"
        self.assertEqual(str(Wording.read(text)), text)

    def test_numbers_of_31_digits(self):
        text = "1" + "0" * 30 + " " + "9" * 31 + " near m\n- - up abcdefghijkl"
        self.assertEqual(Wording.read(text).rows,
                         (Row(10 ** 30, 10 ** 31 - 1, "near", "m"), Row(None, None, "up", "abcdefghijkl")))

    def test_a_way_may_be_a_word(self):
        self.assertEqual(Wording.read("- 5 up down").rows, (Row(None, 5, "up", "down"),))
        self.assertEqual(Wording.read("- 5 near z").text(10), "2 z")


class WrongTexts(unittest.TestCase):

    def line(self, text):
        with self.assertRaises(BadText) as caught:
            Wording.read(text)
        return caught.exception.line

    def test_wrong_words(self):
        lines = ("", " ", "-", "- 5 up", "- 5 up m m", "- 5 up m -", "5 up m", "- - - m", "- 5 Up m", "- 5 above m",
                 "- 5 up M", "- 5 up m1", "- 5 up 5", "- 5 up -", "- 5 up abcdefghijklm", "- 5 up m.", "- 5 up \u00e4",
                 "- 5 up m\t", "-\t5 up m", "- 5\tup m", "- 5 up m\r", "- 5 up\u00a0m", "- 5 up\x0bm", "- 5 up\x0cm",
                 "-- 5 up m", "- x up m", "- 5x up m", "- +5 up m", "- -5 up m", "- 5.0 up m", "- 5_0 up m",
                 "- 1e3 up m", "- \u0665 up m", "- \u00b2 up m", "- \uff15 up m", "None 5 up m", "- None up m",
                 "- 0 up m", "- 00 up m", "- 05 up m", "- 1" + "0" * 31 + " up m", "- 5 downup m", "- 5 nea m",
                 "- 5  m", "- up 5 m", "- 5 m up", "\ud800", "- 5 up \u0131", "- 5 up m\u2028")
        for line in lines:
            self.assertEqual(self.line(line), 1, repr(line))
            self.assertEqual(self.line(f"60 - down now\n{line}"), 2, repr(line))
            self.assertEqual(self.line(f"60 - down now\n{line}\n{line}"), 2, repr(line))

    def test_characters_of_words_and_numbers(self):
        # A line feed and a space part lines and words, so they are no wrong characters.
        for character in [chr(code) for code in range(0x300) if chr(code) not in " \n"]:
            lines = {"letter": f"- 5 up m{character}m", "digit": f"- 5{character}5 up m", "way": f"- 5 up{character} m",
                     "until": f"5{character}5 - up m"}
            if character in "abcdefghijklmnopqrstuvwxyz":
                self.assertEqual(Wording.read(lines.pop("letter")).rows[0].word, f"m{character}m")
            if character in "0123456789":
                self.assertEqual(Wording.read(lines.pop("digit")).rows[0].unit, int(f"5{character}5"))
                self.assertEqual(Wording.read(lines.pop("until") + "\n- - up h").rows[0].until, int(f"5{character}5"))
            for line in lines.values():
                self.assertEqual(self.line(line + "\n- - up h" if line[0] == "5" else line), 1, repr(line))

    def test_wrong_untils(self):
        for until in ("0", "00", "060", "+60", "-60", "60.", "6 0", "", "--", "x", "1" + "0" * 31, "9" * 32, "\u0666",
                      "9" * 5000):
            self.assertEqual(self.line(f"{until} 5 up m\n- 5 up h"), 1, until)

    def test_a_dash_before_the_last_line(self):
        self.assertEqual(self.line("- 5 up m\n- 5 up h"), 1)
        self.assertEqual(self.line("5 5 up m\n- 5 up h\n7 5 up d\n- 5 up d"), 2)

    def test_digits_in_the_last_line(self):
        self.assertEqual(self.line("5 5 up m"), 1)
        self.assertEqual(self.line("5 5 up m\n6 5 up h"), 2)
        self.assertEqual(self.line("5 5 up m\n4 5 up h"), 2)

    def test_untils_that_are_not_greater(self):
        self.assertEqual(self.line("5 5 up m\n5 5 up h\n- 5 up d"), 2)
        self.assertEqual(self.line("5 5 up m\n4 5 up h\n- 5 up d"), 2)
        self.assertEqual(self.line("5 5 up m\n6 5 up h\n6 5 up h\n- 5 up d"), 3)
        self.assertEqual(self.line("10 5 up m\n9 5 up h\n- 5 up d"), 2)

    def test_a_line_feed_at_the_end(self):
        # The empty line behind is the last one: the line ahead of it must not have a dash.
        self.assertEqual(self.line("- 5 up m\n"), 1)
        self.assertEqual(self.line(GOOD + "\n"), 3)
        self.assertEqual(self.line("60 - down now\n"), 2)
        self.assertEqual(self.line("\n- 5 up m"), 1)
        self.assertEqual(self.line("60 5 up m\n\n- 5 up h"), 2)
        self.assertEqual(self.line("\n"), 1)

    def test_a_seventh_line(self):
        six = "1 1 up a\n2 1 up b\n3 1 up c\n4 1 up d\n5 1 up e\n6 1 up f\n"
        self.assertEqual(self.line(six + "- 1 up g"), 7)
        self.assertEqual(self.line(six + "7 1 up g\n- 1 up h"), 7)
        self.assertEqual(self.line(six + "wrong"), 7)
        self.assertEqual(self.line(six), 7)
        self.assertEqual(self.line("1 1 up a\n2 1 up b\n3 1 up c\n4 1 up d\n5 1 up e\n- 1 up f\n- 1 up g"), 6)

    def test_other_line_ends_part_no_lines(self):
        for end in ("\r\n", "\r", "\x0b", "\x0c", "\x1c", "\x85", "\u2028"):
            self.assertEqual(self.line(f"60 - down now{end}- 60 down m"), 1, repr(end))

    def test_nothing_else_is_raised(self):
        chance = random.Random(91)
        pieces = ("60", "-", "down", "up", "near", "m", " ", " ", "\n", "0", "05", "x9", "\t", "9" * 32, "7", "\u00b9")
        right = 0
        for _ in range(20000):
            text = GOOD if chance.random() < 0.2 else "- 5 up m"
            if chance.random() < 0.5:
                text = " ".join([chance.choice(pieces) for _ in range(chance.randint(0, 9))])
            else:
                at = chance.randrange(len(text))
                text = text[:at] + chance.choice(pieces) + text[at + chance.randint(0, 1):]
            try:
                wording = Wording.read(text)
            except BadText as error:
                self.assertTrue(1 <= error.line <= text.count("\n") + 1)
            else:
                right += 1
                self.assertEqual(Wording.read(str(wording)), wording)
        self.assertGreater(right, 100)


if __name__ == "__main__":
    unittest.main()
