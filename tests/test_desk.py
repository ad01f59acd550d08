"""The desk: rows of text, the answers to them, and what is refused [30], [31]."""

import random
import unittest

from backline.backs import fall
from backline.desk import Desk
from backline.errors import NoHand, NoLetter, NoLoom, NoRow, WeaveError
from backline.falls import greatest_line
from backline.keepers import Keeper
from backline.looms import Loom
from backline.programs import program_of
from backline.weavetexts import rows_shown
from tests.weaving import do_row, habit_of, may_use, random_row, refused, sets_of_hands

# Its state grows by the word, by 1 and by the hand's number, as long as 1000 is far.
THREE = "loom free 1 1 1 1000 never:4 each:6 2:1"
# Hand 0: 4 to 5, which writes 5 to hand 1 and 6 to hand 2. Hand 1: 6 + 5 + 2 = 13, which writes to itself.
# Hand 2: 1 + 6 + 3 = 10, which writes 10 to hand 0. Hand 0: 5 + 10 + 1 = 16, which writes to hand 2, and is said.
WOVEN = ["own 0", "use 1 0 1 0", "use 2 0 1 1", "use 0 2 1 0"]
# All kinds of rows but `loom`.
RIGHT_ROWS = [
    "own 0", "use 1 0 1 0", "write 2", "show", "road", "points 1", "rows", "line 0,2", "line -", "fall 1", "fall -",
    "tell", "heard", "throw",
]


def desk_told(rows):
    desk = Desk()
    for row in rows:
        desk.say(row)
    return desk


def shown(desk, many=3):
    """All that a desk shows without a change."""
    asked = ["show", "road", "rows", "heard"] + [f"points {hand}" for hand in range(many)]
    asked += [f"line {hands_told(hands)}" for hands in sets_of_hands(many)]
    return [desk.say(row) for row in asked]


def hands_told(hands):
    return ",".join(str(hand) for hand in sorted(hands)) or "-"


class RowsTest(unittest.TestCase):
    def says(self, desk, *pairs):
        for row, answer in pairs:
            with self.subTest(row):
                self.assertEqual(desk.say(row), answer)

    def test_a_new_loom(self):
        self.says(
            Desk(), (THREE, "ok"), ("show", "0:4 0:6 0:1"), ("road", "none"), ("rows", ""), ("points 0", "0"),
            ("points 2", "0"), ("line 0,1,2", "0 0 0"), ("line -", "0 0 0"), ("heard", "none"), ("tell", "none"),
            ("throw", "ok"), ("fall -", "0 0 0"), ("fall 0,1,2", "0 0 0"), ("rows", ""))

    def test_deeds(self):
        self.says(
            desk_told([THREE]),
            ("own 0", "ok"), ("show", "1:5 0:6 0:1"), ("road", "0.1.0 0.1.1"), ("rows", "own 0"),
            ("use 1 0 1 0", "ok"), ("show", "1:5 1:13 0:1"), ("road", "0.1.1 1.1.0"),
            ("use 2 0 1 1", "ok"), ("use 0 2 1 0", "ok"), ("show", "2:16 1:13 1:10"), ("road", "0.2.0 1.1.0"),
            ("write 0", "ok"), ("show", "2:16 1:13 1:10"),
            ("rows", "own 0\nuse 1 0 1 0\nuse 2 0 1 1\nuse 0 2 1 0\nwrite 0"))

    def test_points(self):
        desk = desk_told([THREE] + WOVEN)
        self.says(desk, ("points 0", "0"), ("points 1", "0 1"), ("points 2", "0"))
        desk.say("write 0")
        desk.say("own 2")
        self.says(desk, ("points 0", "0 2"), ("points 1", "0 1"), ("points 2", "0 1 2"))

    def test_line_leaves_the_loom_as_it_is(self):
        desk = desk_told([THREE] + WOVEN)
        before = shown(desk)
        self.says(
            desk, ("line -", "2 1 1"), ("line 1", "2 1 1"), ("line 2", "0 0 0"), ("line 0", "0 0 0"),
            ("line 1,2", "0 0 0"), ("line 0,1,2", "0 0 0"))
        self.assertEqual(shown(desk), before)

    def test_line_with_writings_between(self):
        desk = desk_told([THREE] + WOVEN[:1] + ["write 0"] + WOVEN[1:] + ["write 2"])
        self.says(desk, ("line 0", "1 1 1"), ("line 2", "2 1 1"), ("line 0,2", "1 1 1"), ("show", "2:16 1:13 1:10"))

    def test_fall_goes_back(self):
        desk = desk_told([THREE] + WOVEN[:1] + ["write 0"] + WOVEN[1:])
        self.says(
            desk, ("line 2", "1 1 0"), ("fall 2", "1 1 0"), ("show", "1:5 1:13 0:1"), ("road", "0.1.1 1.1.0"),
            ("rows", "own 0\nwrite 0\nuse 1 0 1 0"), ("points 0", "0 1"), ("fall -", "1 1 0"), ("fall 0", "1 1 0"),
            ("use 2 0 1 1", "ok"), ("show", "1:5 1:13 1:10"))

    def test_tell_heard_and_throw(self):
        desk = desk_told([THREE] + WOVEN)
        self.says(desk, ("tell", "none"), ("heard", "none"), ("write 2", "ok"), ("tell", "none"), ("write 0", "ok"))
        self.says(desk, ("heard", "none"), ("tell", "0.2.16"), ("tell", "none"), ("heard", "0.2.16"))
        # Hand 1: 13 + 2 + 13 is 28, which is said; hand 2: 10 + 3 + 16 is 29.
        self.says(desk, ("use 1 1 1 0", "ok"), ("use 2 0 2 0", "ok"), ("write 2", "ok"))
        self.says(desk, ("tell", "1.2.28"), ("heard", "0.2.16 1.2.28"), ("tell", "none"), ("heard", "0.2.16 1.2.28"))
        self.says(desk, ("points 0", "0 2"), ("points 1", "0 1 2"), ("points 2", "0 1 2"))
        self.says(desk, ("throw", "ok"), ("points 0", "2"), ("points 1", "0 1 2"), ("points 2", "2"))
        self.says(desk, ("fall 0,1,2", "2 2 2"), ("heard", "0.2.16 1.2.28"), ("tell", "none"))

    def test_several_words_are_told_at_once_hand_by_hand(self):
        # Each deed leads to 0, which is said and writes to none.
        desk = desk_told(["loom ordered 0 0 4 1 each:0 each:0", "own 1", "own 0", "own 1"])
        self.says(desk, ("tell", "0.1.0 1.1.0 1.2.0"), ("own 0", "ok"), ("tell", "0.2.0"))
        self.says(desk, ("heard", "0.1.0 1.1.0 1.2.0 0.2.0"))

    def test_ways(self):
        rows = ["own 0", "own 0"]
        # Each deed of hand 0 leads to 1, which is written to hand 0 itself.
        desk = desk_told(["loom ordered 0 0 1 1000 never:0 never:0"] + rows)
        refused(self, NoLetter, desk.say, "use 0 0 2 0")
        self.says(desk, ("use 0 0 1 0", "ok"), ("use 0 0 2 0", "ok"))
        desk = desk_told(["loom free 0 0 1 1000 never:0 never:0"] + rows)
        self.says(desk, ("use 0 0 2 0", "ok"), ("use 0 0 1 0", "ok"))

    def test_habits_and_starts(self):
        starts = "never:0 each:7 1:10 20:9999999999 2:1000000000"
        desk = desk_told([f"loom free 0 0 0 1 {starts}"])
        self.says(desk, ("show", "0:0 0:7 0:10 0:9999999999 0:1000000000"))
        for turn in range(19):
            for hand in range(5):
                desk.say(f"own {hand}")
        every = " ".join(str(place) for place in range(20))
        self.says(desk, ("points 0", "0"), ("points 1", every), ("points 2", every), ("points 3", "0"))
        self.says(desk, ("points 4", every[:-3]), ("own 3", "ok"), ("points 3", every + " 20"))

    def test_the_numbers_of_the_program(self):
        # 3 * 7 + 2 * 0 + 10 + 1 = 32 and 100 is far; 32 // 3 % 2 is 0.
        desk = desk_told(["loom free 3 2 10 100 never:5 never:7", "own 1"])
        self.says(desk, ("show", "0:5 1:32"), ("road", "1.1.0 1.1.1"), ("use 0 1 1 0", "ok"))
        # 3 * 5 + 2 * 32 + 10 = 89.
        self.says(desk, ("show", "1:89 1:32"))

    def test_the_bounds_of_the_numbers(self):
        desk = Desk()
        for row in (
                "loom ordered 0 0 0 1 never:0 never:0",
                "loom free 1000000000 1000000000 1000000000 1000000000 20:9999999999 1:0",
                "loom free 0 0 0 1 each:0 each:0 each:0 each:0 each:0"):
            self.says(desk, (row, "ok"))

    def test_a_loom_told_anew_has_a_new_keeper(self):
        row = "loom ordered 0 0 4 1 each:0 each:0"
        desk = desk_told([row, "own 0", "tell"])
        self.says(desk, ("heard", "0.1.0"), (row, "ok"), ("show", "0:0 0:0"), ("rows", ""), ("heard", "none"))
        self.says(desk, ("own 0", "ok"), ("heard", "none"), ("tell", "0.1.0"), ("heard", "0.1.0"))
        self.says(desk, (THREE, "ok"), ("show", "0:4 0:6 0:1"), ("heard", "none"))

    def test_two_desks_know_nothing_of_one_another(self):
        one = desk_told([THREE, "own 0"])
        other = Desk()
        refused(self, NoLoom, other.say, "show")
        other.say("loom free 0 0 4 1 each:0 each:0")
        other.say("own 1")
        self.says(other, ("tell", "1.1.0"), ("show", "0:0 1:0"))
        self.says(one, ("show", "1:5 0:6 0:1"), ("tell", "none"), ("heard", "none"), ("road", "0.1.0 0.1.1"))

    def test_each_answer_is_a_text(self):
        desk = desk_told([THREE, "own 0"])
        for row in RIGHT_ROWS + [THREE]:
            self.assertIs(type(desk.say(row)), str)


class NoRowTest(unittest.TestCase):
    def no_row(self, *rows):
        """Refused with NoRow, ahead of NoLoom, too, and what the desk shows stays."""
        desk = desk_told([THREE, "own 0", "write 0", "use 1 0 1 0"])
        before = shown(desk)
        for row in rows:
            with self.subTest(row):
                refused(self, NoRow, Desk().say, row)
                refused(self, NoRow, desk.say, row)
                self.assertEqual(shown(desk), before)

    def test_what_is_no_text(self):
        self.no_row(None, 0, 1, True, [], ["show"], ("own", 0), b"show", {}, {"show": 1}, Desk())

    def test_words_that_are_none(self):
        self.no_row(
            "", " ", "\n", "-", "none", "ok", "Show", "SHOW", "shows", "sho", "say", "loom", "0", "go 0", "come 0 1",
            "picture 0", "back 0", "base", "places", "states", "undo", "quit")

    def test_blanks_and_line_feeds(self):
        for row in RIGHT_ROWS + [THREE]:
            self.no_row(f" {row}", f"{row} ", f"{row}\n", f"\n{row}", f"{row}\t", f"{row}\r", f"{row} 0 0 0 0 0 0")
            if " " in row:
                self.no_row(row.replace(" ", "  ", 1), row.replace(" ", "\t", 1), row.replace(" ", "\n", 1))
        self.no_row("own 0\nown 0", "show\nshow")

    def test_too_few_and_too_many_words(self):
        self.no_row(
            "own", "use", "write", "points", "line", "fall", "own ", "line ", "fall ", "own 0 0", "write 0 0", "show 0",
            "road 0", "rows 0", "tell 0", "heard 0", "throw 0", "points 0 1", "line 0 1", "fall 0 1", "line - -",
            "use 0", "use 0 0", "use 0 0 1", "use 0 0 1 0 0", "show -", "points -", "own -", "points 0,1", "own 0,1")

    def test_numbers_that_are_none(self):
        for number in ("00", "01", "-1", "+1", "-0", "1.", "1000000", "\u0661", "\uff11", "\u00b2", "a", "1_0", "0x1",
                       ""):
            self.no_row(
                f"own {number}", f"write {number}", f"points {number}", f"line {number}", f"fall {number}",
                f"use {number} 0 1 0", f"use 0 {number} 1 0", f"use 0 0 {number} 0", f"use 0 0 1 {number}",
                f"line 0,{number}", f"fall 0,{number}", f"line {number},2")

    def test_hands_that_are_not_rising_or_ill_told(self):
        for hands in ("1,0", "0,0", "0,1,1", "0,2,1", "1,1,2", "2,1,0", "0, 1", "0 ,1", " 0", "0,", ",0", ",", "0,,1",
                      "-,0", "0,-", "--", "0;1", "0.1", "[]", "all", "none", "5,4", "9,10,9", "10,9"):
            self.no_row(f"line {hands}", f"fall {hands}")

    def test_numbers_out_of_the_bounds(self):
        for numbers in ("1000000001 0 0 1", "0 1000000001 0 1", "0 0 1000000001 1", "0 0 0 1000000001", "0 0 0 0",
                        "9999999999 0 0 1", "10000000000 0 0 1", "0 0 0 10000000000", "-1 0 0 1", "0 -1 0 1",
                        "0 0 -1 1", "0 0 0 -1", "+1 0 0 1", "00 0 0 1", "0 01 0 1", "0 0 0 01", "0 0 0 1.0", "0 0 0 x",
                        "0 0 \u0661 1", "0000000000 0 0 1"):
            self.no_row(f"loom free {numbers} never:0 each:0", f"loom ordered {numbers} 2:0 3:0")

    def test_sizes_out_of_the_bounds_and_habits_that_are_none(self):
        for habit in ("0", "21", "100", "999999", "10000000", "-1", "+1", "01", "00", "020", "1.0", "", "Never", "EACH",
                      "never ", "bundle", "bundle(2)", "Bundle", "nevereach", "-", "\u0662"):
            self.no_row(f"loom free 0 0 0 1 {habit}:0 each:0", f"loom free 0 0 0 1 each:0 {habit}:0")

    def test_starts(self):
        for start in ("-1", "+1", "-0", "", "00", "01", "10000000000", "99999999999", "1.0", "x", "0:0", ":0",
                      "\u0661", "1,0"):
            self.no_row(f"loom free 0 0 0 1 each:{start} each:0", f"loom free 0 0 0 1 each:0 each:{start}")

    def test_how_many_hands(self):
        for many in (0, 1, 6, 7, 50):
            self.no_row("loom free 0 0 0 1" + " each:0" * many)

    def test_ill_told_looms(self):
        self.no_row(
            "loom", "loom free", "loom ordered", "loom free 0 0 0 1", "loom 0 0 0 1 each:0 each:0",
            "loom free 0 0 0 each:0 each:0", "loom free 0 0 0 1 1 each:0 each:0", "loom Free 0 0 0 1 each:0 each:0",
            "loom true 0 0 0 1 each:0 each:0", "loom order 0 0 0 1 each:0 each:0", "loom  0 0 0 1 each:0 each:0",
            "loom free 0 0 0 1 each:0 each", "loom free 0 0 0 1 each:0 0", "loom free 0 0 0 1 each 0 each 0",
            "loom free 0 0 0 1 each:0,each:0", "loom free 0 0 0 1 each:0  each:0", "loom free 0 0 0 1 each:0 each:0 ",
            "loom free 0 0 0 1 each: 0 each:0", "loom free 0 0 0 1 each:0 each:0 -", "loom free 0 0 0 1 0:each 0:each",
            "Loom free 0 0 0 1 each:0 each:0", "loom free,0 0 0 1 each:0 each:0", "loom - 0 0 0 1 each:0 each:0",
            "loom free 0 0 0 1 each:0\neach:0")


class RefusalTest(unittest.TestCase):
    def unchanged(self, desk, error, *rows):
        before = shown(desk)
        for row in rows:
            with self.subTest(row):
                refused(self, error, desk.say, row)
                self.assertEqual(shown(desk), before)

    def test_no_loom(self):
        desk = Desk()
        for row in RIGHT_ROWS:
            refused(self, NoLoom, desk.say, row)
        desk.say(THREE)
        self.assertEqual(desk.say("show"), "0:4 0:6 0:1")

    def test_no_loom_ahead_of_no_hand_and_no_letter(self):
        for row in ("own 9", "use 9 9 9 9", "use 0 0 1 0", "write 999999", "points 5", "line 9", "fall 0,9", "line -"):
            refused(self, NoLoom, Desk().say, row)

    def test_a_loom_that_is_refused_makes_none(self):
        desk = Desk()
        refused(self, NoRow, desk.say, "loom free 0 0 0 0 each:0 each:0")
        refused(self, NoLoom, desk.say, "show")

    def test_no_hand(self):
        self.unchanged(
            desk_told([THREE, "own 0", "write 0", "own 0"]), NoHand, "own 3", "write 3", "points 3", "own 999999",
            "points 999999", "write 12", "line 3", "line 0,3", "line 0,1,2,3", "line 3,4", "line 999999", "fall 3",
            "fall 0,3", "fall 0,1,2,3", "fall 2,10", "fall 999999")

    def test_no_hand_ahead_of_no_letter(self):
        self.unchanged(
            desk_told([THREE, "own 0"]), NoHand, "use 3 0 1 0", "use 3 0 9 9", "use 999999 3 1 0", "use 4 4 1 0")

    def test_no_letter(self):
        self.unchanged(
            desk_told([THREE] + WOVEN), NoLetter, "use 0 0 0 0", "use 1 0 1 0", "use 1 0 1 1", "use 2 0 1 0",
            "use 0 0 2 0", "use 1 0 2 0", "use 2 0 2 1", "use 2 1 1 0", "use 0 3 1 0", "use 0 999999 999999 999999",
            "use 1 1 2 0")


class Twin:
    """A loom and a keeper of the desk's kind, with the answers that [30] wants, told anew from what they tell."""

    def __init__(self, chance):
        self.chance = chance
        many = chance.randint(2, 5)
        numbers = [chance.choice([chance.randrange(5), chance.randint(0, 10 ** 9)]) for number in range(3)]
        numbers.append(chance.choice([chance.randint(1, 30), chance.randint(1, 10 ** 9)]))
        sizes = [chance.choice([0, 0, 1, 2, 3]) for hand in range(many)]
        starts = [chance.randrange(10 ** chance.randint(1, 10)) for hand in range(many)]
        ordered = chance.random() < 0.5
        habits = [{0: "never", 1: chance.choice(["each", "1"])}.get(size, str(size)) for size in sizes]
        pairs = [f"{habit}:{start}" for habit, start in zip(habits, starts)]
        self.begin = " ".join(["loom", "ordered" if ordered else "free"] + [str(number) for number in numbers] + pairs)
        self.loom = Loom(program_of(*numbers, many), starts, [habit_of(size) for size in sizes], ordered)
        self.keeper = Keeper(self.loom)

    def dotted(self, names):
        return " ".join(".".join(str(part) for part in name) for name in names) or "none"

    def spaced(self, numbers):
        return " ".join(str(number) for number in numbers)

    def turn(self):
        """A row, and the answer that it is to have."""
        loom, chance = self.loom, self.chance
        hand = chance.randrange(loom.many)
        hands = chance.sample(range(loom.many), chance.randrange(loom.many + 1))
        draw = chance.random()
        if draw < 0.6:
            row = random_row(loom, chance)
            do_row(loom, row)
            return rows_shown([row]), "ok"
        if draw < 0.68:
            return f"fall {hands_told(hands)}", self.spaced(fall(loom, hands)[0])
        return chance.choice([
            lambda: ("show", " ".join(f"{place}:{state}" for place, state in zip(loom.places(), loom.states()))),
            lambda: ("road", self.dotted(loom.road())),
            lambda: (f"points {hand}", self.spaced(loom.points(hand))),
            lambda: ("rows", rows_shown(loom.rows())),
            lambda: (f"line {hands_told(hands)}", self.spaced(greatest_line(loom, hands)[0])),
            lambda: ("tell", self.dotted(self.keeper.tell())),
            lambda: ("heard", self.dotted(self.keeper.heard())),
            lambda: ("throw", "ok" if self.keeper.throw() is None else ""),
        ])()


class BesideALoomTest(unittest.TestCase):
    def test_each_answer_is_what_the_loom_and_the_keeper_tell(self):
        for seed in range(60):
            twin, desk = Twin(random.Random(seed)), Desk()
            self.assertEqual(desk.say(twin.begin), "ok")
            for turn in range(80):
                row, answer = twin.turn()
                with self.subTest((seed, turn, row)):
                    self.assertEqual(desk.say(row), answer)

    def wrong_row(self, loom, chance):
        """A row of right form, and its refusal by [31]: a hand that isn't there, else a letter that may not be used."""
        hand, number = chance.randrange(loom.many + 2), chance.randrange(4)
        name = (chance.randrange(loom.many + 1), number, chance.randrange(3))
        if chance.random() < 0.5:
            row = f"use {hand} {name[0]} {name[1]} {name[2]}"
            return row, NoHand if hand >= loom.many else None if name in may_use(loom, hand) else NoLetter
        row = chance.choice(["own", "write", "points", "line", "fall"])
        return f"{row} {loom.many + number}", NoHand

    def test_what_is_refused_changes_nothing(self):
        for seed in range(25):
            chance = random.Random(seed)
            twin, desk = Twin(chance), Desk()
            desk.say(twin.begin)
            for turn in range(30):
                row, answer = twin.turn()
                self.assertEqual(desk.say(row), answer)
                wrong, error = self.wrong_row(twin.loom, chance)
                if error:
                    before = shown(desk, twin.loom.many)
                    refused(self, error, desk.say, wrong)
                    self.assertEqual(shown(desk, twin.loom.many), before)

    def test_no_row_by_chance_is_refused_otherwise_than_told(self):
        chance = random.Random(31)
        parts = ["own", "use", "write", "show", "line", "fall", "points", "loom", "free", "each:0", "2:7", "0", "1",
                 "00", "-", "0,1", "1,0", "9", " ", " ", " ", "\n", "throw", "tell"]
        desk = desk_told([THREE])
        for turn in range(5000):
            row = " ".join(chance.choice(parts) for part in range(chance.randrange(1, 6)))
            try:
                self.assertIs(type(desk.say(row)), str)
            except WeaveError as error:
                self.assertIn(type(error), (NoRow, NoHand, NoLetter))
