"""Rows of a loom as texts, and read back [29]."""

import random
import re
import unittest

from backline.backs import again
from backline.errors import NoText
from backline.weavetexts import read_rows, rows_shown
from tests.weaving import Weaving, refused, told

ROWS = [
    ("own", 0), ("write", 4), ("use", 1, (0, 12, 2)), ("own", 999999), ("write", 100000), ("use", 0, (0, 0, 0)),
    ("use", 999999, (123456, 90909, 10)),
]
TEXT = (
    "own 0\nwrite 4\nuse 1 0 12 2\nown 999999\nwrite 100000\nuse 0 0 0 0\nuse 999999 123456 90909 10"
)
OTHER_FIGURES = ["\u0661", "\uff11", "\u00b2", "\u2460", "\u0967", "I", "x", "a", "O", "l"]


NUMBER = "(0|[1-9][0-9]{0,5})"
ROW = f"(own {NUMBER}|write {NUMBER}|use {NUMBER} {NUMBER} {NUMBER} {NUMBER})"
FORM = re.compile(f"({ROW}(\n{ROW})*)?")


def ill_written(text, chance):
    """The text with up to two signs put in, left out or changed."""
    for turn in range(chance.randrange(3)):
        place = chance.randrange(len(text) + 1)
        put_in = chance.choice(["", " ", "\n", "0", "7", "own 1", "-"])
        text = text[:place] + put_in + text[place + chance.randrange(2):]
    return text


class ShowTest(unittest.TestCase):
    def test_none_one_and_many(self):
        self.assertEqual(rows_shown([]), "")
        self.assertEqual(rows_shown([("own", 3)]), "own 3")
        self.assertEqual(rows_shown([("use", 1, (0, 3, 1))]), "use 1 0 3 1")
        self.assertEqual(rows_shown([("write", 0)]), "write 0")
        self.assertEqual(rows_shown(ROWS), TEXT)

    def test_what_is_handed_in_stays(self):
        rows = list(ROWS)
        rows_shown(rows)
        self.assertEqual(rows, ROWS)

    def test_the_rows_of_looms_read_back_and_done_again(self):
        for seed in range(12):
            weaving = Weaving(seed)
            weaving.weave(40)
            rows = read_rows(rows_shown(weaving.loom.rows()))
            self.assertEqual(rows, weaving.loom.rows())
            self.assertEqual(told(again(*weaving.made_of, rows)), told(weaving.loom))


class ReadTest(unittest.TestCase):
    def no_text(self, *texts):
        for text in texts:
            with self.subTest(text):
                refused(self, NoText, read_rows, text)
                # Nor as one row of several.
                for several in (f"{text}\nown 0", f"own 0\n{text}", f"own 0\n{text}\nwrite 1"):
                    refused(self, NoText, read_rows, several)

    def test_none_one_and_many(self):
        self.assertEqual(read_rows(""), [])
        self.assertEqual(read_rows("own 3"), [("own", 3)])
        self.assertEqual(read_rows("use 1 0 3 1"), [("use", 1, (0, 3, 1))])
        self.assertEqual(read_rows("write 0"), [("write", 0)])
        self.assertEqual(read_rows(TEXT), ROWS)

    def test_kinds(self):
        rows = read_rows(TEXT)
        self.assertIs(type(rows), list)
        for row in rows:
            self.assertIs(type(row), tuple)
            self.assertIs(type(row[1]), int)
            if row[0] == "use":
                self.assertIs(type(row[2]), tuple)
                self.assertEqual([type(number) for number in row[2]], [int, int, int])

    def test_what_is_told_is_the_askers_own(self):
        for text in ("", TEXT):
            before = list(read_rows(text))
            read_rows(text).append(("own", 1))
            read_rows(text).reverse()
            self.assertEqual(read_rows(text), before)

    def test_numbers_of_one_to_six_figures(self):
        for number in (0, 7, 10, 99, 100, 999, 1000, 99999, 100000, 999999):
            self.assertEqual(read_rows(f"own {number}"), [("own", number)])
            self.assertEqual(
                read_rows(f"use {number} {number} {number} {number}"), [("use", number, (number, number, number))])

    def test_seven_figures(self):
        self.no_text("own 1000000", "write 9999999", "use 1000000 0 1 0", "use 0 1000000 1 0", "use 0 0 1000000 0",
                     "use 0 0 1 1000000", "own " + "1" * 5000)

    def test_noughts_ahead(self):
        self.no_text("own 00", "own 01", "write 007", "use 01 0 1 0", "use 0 00 1 0", "use 0 0 01 0", "use 0 0 1 00",
                     "own 000000", "own 0000001")

    def test_signs_ahead_of_a_number(self):
        self.no_text("own -1", "own +1", "own -0", "write +0", "use 0 -1 1 0", "use 0 0 +1 0", "use 0 0 1 -0")

    def test_blanks(self):
        self.no_text("own  0", " own 0", "own 0 ", "own 0  ", "use 0  0 1 0", "use 0 0 1 0 ", " ", "  ", "own ", " 0",
                     "own\t0", "own 0\t", "own\u00a00", "own0")

    def test_line_feeds(self):
        for text in ("\n", "\n\n", "own 0\n", "\nown 0", "own 0\n\nown 1", "own 0\n\n", "own\n0", "own 0\r\nown 1",
                     "own 0\r", "own 0\x0bown 1", "own 0\x0cown 1", "own 0\u2028own 1", "own 0\x85own 1",
                     "own 0\x1cown 1"):
            with self.subTest(text):
                refused(self, NoText, read_rows, text)

    def test_words_that_are_none(self):
        self.no_text("Own 0", "OWN 0", "owns 0", "ow 0", "0", "0 own", "do 0", "none", "-", "fall 0", "show",
                     "used 0 0 1 0", "writes 0", "own,0", "own:0", '("own", 0)', "ok")

    def test_too_few_and_too_many_numbers(self):
        self.no_text("own", "write", "use", "own 0 0", "write 0 0", "use 0", "use 0 0", "use 0 0 1", "use 0 0 1 0 0",
                     "own 0 0 1 0", "write 0 0 1 0", "use 0 0.1.0", "own 0 own 1", "own 0 ,")

    def test_other_kinds_of_figures(self):
        for figure in OTHER_FIGURES:
            self.no_text(f"own {figure}", f"own 1{figure}", f"write {figure}1", f"use 0 0 {figure} 0")
        self.no_text("own 1_0", "own 1.0", "own 1e1", "own 0x1", "own 1,0", "own 'a'", "own None", "own True", "own 0.",
                     "own 1j", "own (1)")

    def test_what_is_no_text(self):
        for value in (None, 0, True, [], [("own", 0)], ("own", 0), b"own 0", {}):
            refused(self, NoText, read_rows, value)

    def test_texts_by_chance_are_read_or_refused_by_their_form(self):
        chance = random.Random(29)
        read = 0
        for turn in range(20000):
            text = ill_written(TEXT[:chance.randrange(len(TEXT))], chance)
            if FORM.fullmatch(text):
                read += 1
                self.assertEqual(rows_shown(read_rows(text)), text)
            else:
                refused(self, NoText, read_rows, text)
        self.assertGreater(read, 1000)
        self.assertLess(read, 18000)

    def test_rows_by_chance_are_read_as_they_were_shown(self):
        chance = random.Random(30)

        def number():
            return chance.randrange(10 ** chance.randint(1, 6))
        for turn in range(500):
            rows = []
            for row in range(chance.randrange(8)):
                rows.append(chance.choice([
                    ("own", number()), ("write", number()), ("use", number(), (number(), number(), number())),
                ]))
            self.assertEqual(read_rows(rows_shown(rows)), rows)
