"""Pictures: places taken by marks, their line and letters [25], [26]; rows at or ahead of a sound line first [27]."""

import unittest

from backline.backs import again, fall
from backline.errors import NoHand, NoMark, NoOrder, NotDone, TooSoon
from backline.habits import Bundle, Each, Never
from backline.keepers import Keeper
from backline.lines import is_sound, on_road
from backline.looms import Loom
from backline.pictures import Picture
from tests.weaving import (
    Weaving, all_lines, but_points, counting, do_row, done_again, mixing, plainly_broken, random_row, refused, told,
)

MARK = "mark"

# Of three hands: 0 writes to 1 by each of its first four deeds, 1 to 2 and back to 0, 2 to itself and to 0.
LETTERS = {
    (0, 1): [(1, 10)], (0, 2): [(1, 11)], (0, 3): [(1, 12)], (0, 4): [(1, 13), (0, 14)],
    (1, 1): [(2, 20)], (1, 2): [(0, 21)], (1, 3): [(2, 22)],
    (2, 1): [(2, 30), (0, 31)], (2, 2): [(0, 32)],
}


def three_hands(rows=(), ordered=True, habits=None):
    return done_again(counting(LETTERS), [0, 0, 0], habits or [Never(), Each(), Bundle(2)], ordered, rows)


def two_hands(rows=()):
    """Every deed of either hand writes to the other one."""
    def does(hand, state, word):
        return state + 1, [(1 - hand, state)], []
    return done_again(does, [0, 0], [Never(), Never()], True, rows)


def sparing(many, salt):
    """A program that sends less than a letter for each deed, so that ways run empty now and then."""
    mixed = mixing(many, salt)

    def does(hand, state, word):
        new, letters, words = mixed(hand, state, word)
        return new, letters[1:], words
    return does


def sparing_weaving(seed):
    weaving = Weaving(seed)
    weaving.made_of = (sparing(weaving.loom.many, seed),) + weaving.made_of[1:3] + (True,)
    weaving.loom = Loom(*weaving.made_of)
    return weaving


def do_rows(loom, rows):
    for row in rows:
        do_row(loom, row)


def come_all(picture, ways):
    for sender, to in ways:
        picture.come(sender, to)


def plain_letters(loom, line):
    """The letters on the road across a line but for those of a hand to itself, by the words of [13] and [26]."""
    used = loom.letters_used()
    return sorted(
        name for name, (to, word) in loom.letters_sent().items()
        if to != name[0] and name[1] <= line[name[0]] and not (name in used and used[name] <= line[to])
    )


class PlainPicture:
    """Points [25] and [26] word by word: each way is a queue of letters and marks, and each row is followed at once."""

    def __init__(self, loom, hand):
        self.loom, self.hands = loom, range(loom.many)
        self.ways = {(sender, to): [] for sender in self.hands for to in self.hands}
        for name in loom.road():
            self.ways[(name[0], loom.letters_sent()[name][0])].append(name)
        self.taken, self.came, self.between = {}, set(), []
        self.take(hand)

    def take(self, hand):
        self.taken[hand] = self.loom.places()[hand]
        for to in self.hands:
            if to != hand:
                self.ways[(hand, to)].append(MARK)

    def bring(self, way):
        assert self.ways[way].pop(0) == MARK
        self.came.add(way)
        if way[1] not in self.taken:
            self.take(way[1])

    def refusal(self, sender, to):
        way = self.ways.get((sender, to), [])
        if MARK not in way:
            return NoMark
        return None if way[0] == MARK else TooSoon

    def ahead_of(self, row):
        if row[0] == "use":
            name, hand = row[2], row[1]
            way = (name[0], hand)
            if self.ways[way][0] == MARK:
                self.bring(way)
            assert self.ways[way].pop(0) == name
            if hand in self.taken and hand != name[0] and way not in self.came:
                self.between.append(name)

    def behind(self, row):
        if row[0] != "write":
            here = (row[1], self.loom.places()[row[1]])
            for name, (to, word) in self.loom.letters_sent().items():
                if name[:2] == here:
                    self.ways[(row[1], to)].append(name)

    def is_done(self):
        return len(self.taken) == len(self.hands) and len(self.came) == len(self.hands) * (len(self.hands) - 1)

    def line(self):
        return [self.taken[hand] for hand in self.hands]


class BeginTest(unittest.TestCase):
    def test_ways_without_order_are_refused_ahead_of_hands_that_are_none(self):
        loom = three_hands(ordered=False)
        for hand in (0, 2, 3, -1, True):
            refused(self, NoOrder, Picture, loom, hand)

    def test_hands_that_are_none(self):
        loom = three_hands([("own", 0)])
        before = told(loom)
        for hand in (3, -1, 10 ** 40, True, False, None, "0", (0,)):
            refused(self, NoHand, Picture, loom, hand)
        self.assertEqual(told(loom), before)

    def test_each_hand_begins_with_marks_to_all_others(self):
        for hand in range(3):
            picture = Picture(three_hands(), hand)
            for sender in range(3):
                for to in range(3):
                    if sender != hand or to == hand:
                        refused(self, NoMark, picture.come, sender, to)
            for to in range(3):
                if to != hand:
                    picture.come(hand, to)

    def test_the_place_is_where_the_hand_stands(self):
        loom = two_hands([("own", 0), ("own", 1), ("own", 0)])
        picture = Picture(loom, 0)
        do_rows(loom, [("own", 0), ("use", 0, (1, 1, 0)), ("use", 1, (0, 1, 0)), ("use", 1, (0, 2, 0))])
        picture.come(0, 1)
        do_rows(loom, [("use", 0, (1, 2, 0)), ("use", 0, (1, 3, 0))])
        picture.come(1, 0)
        self.assertEqual(picture.line(), [2, 3])


class ComeTest(unittest.TestCase):
    def test_no_mark(self):
        loom = three_hands([("own", 0)])
        picture = Picture(loom, 1)
        for sender, to in ((0, 1), (0, 2), (2, 0), (2, 1)):
            refused(self, NoMark, picture.come, sender, to)
        for hand in range(3):
            refused(self, NoMark, picture.come, hand, hand)
        for sender, to in ((1, 3), (1, -1), (-2, 0), (3, 1), (-1, -1), (1, 10 ** 40), (7, 9)):
            refused(self, NoMark, picture.come, sender, to)

    def test_what_is_no_whole_number_is_no_hand(self):
        picture = Picture(three_hands(), 1)
        for sender, to in ((True, 0), (1, False), (None, 0), (1, None), ("1", "0"), ([1], 0), (1, (0,)), (1, {})):
            refused(self, NoMark, picture.come, sender, to)
        come_all(picture, [(1, 0), (1, 2)])

    def test_a_mark_comes_once(self):
        picture = Picture(three_hands(), 0)
        picture.come(0, 1)
        refused(self, NoMark, picture.come, 0, 1)
        picture.come(0, 2)
        refused(self, NoMark, picture.come, 0, 1)

    def test_too_soon_until_all_letters_ahead_of_it_are_used(self):
        loom = three_hands([("own", 0), ("own", 0)])
        picture = Picture(loom, 0)
        refused(self, TooSoon, picture.come, 0, 1)
        loom.use(1, (0, 1, 0))
        refused(self, TooSoon, picture.come, 0, 1)
        loom.use(1, (0, 2, 0))
        picture.come(0, 1)
        refused(self, NoMark, picture.come, 0, 1)

    def test_letters_behind_the_mark_or_on_other_ways_dont_keep_it(self):
        loom = three_hands([("own", 0), ("own", 0), ("use", 1, (0, 1, 0)), ("use", 1, (0, 2, 0)), ("own", 2)])
        picture = Picture(loom, 0)
        do_rows(loom, [("own", 0), ("own", 0)])
        # Hand 0 sent to 1 and to itself behind the mark, 1 to 0 and 2, and 2 to itself and 0.
        self.assertEqual(loom.road(), [(0, 3, 0), (0, 4, 0), (0, 4, 1), (1, 1, 0), (1, 2, 0), (2, 1, 0), (2, 1, 1)])
        come_all(picture, [(0, 1), (0, 2), (2, 1)])
        for sender, to in ((1, 0), (1, 2), (2, 0)):
            refused(self, TooSoon, picture.come, sender, to)

    def test_no_mark_ahead_of_too_soon(self):
        loom = three_hands([("own", 0), ("own", 1), ("own", 2)])
        picture = Picture(loom, 0)
        # Letters wait on these ways, but no mark is on them.
        for sender, to in ((1, 2), (2, 0), (2, 2)):
            refused(self, NoMark, picture.come, sender, to)
        refused(self, TooSoon, picture.come, 0, 1)

    def test_letters_that_are_used_by_the_time_of_asking_count_as_used(self):
        loom = three_hands([("own", 0)])
        picture = Picture(loom, 0)
        do_rows(loom, [("own", 1), ("use", 1, (0, 1, 0)), ("own", 1)])
        picture.come(0, 1)
        picture.come(0, 2)
        do_rows(loom, [("use", 2, (1, 1, 0)), ("use", 2, (1, 3, 0))])
        come_all(picture, [(1, 2), (2, 1)])
        refused(self, TooSoon, picture.come, 1, 0)
        refused(self, NotDone, picture.line)
        loom.use(0, (1, 2, 0))
        come_all(picture, [(1, 0), (2, 0)])
        self.assertEqual((picture.line(), picture.letters()), ([1, 3, 0], [(1, 1, 0), (1, 2, 0), (1, 3, 0)]))

    def test_the_place_taken_is_where_the_hand_stands_when_the_mark_comes(self):
        loom = three_hands()
        picture = Picture(loom, 0)
        do_rows(loom, [("own", 1)] * 4)
        picture.come(0, 1)
        do_rows(loom, [("own", 1), ("own", 2), ("own", 2), ("own", 2)])
        picture.come(0, 2)
        do_rows(loom, [("own", 2), ("use", 2, (1, 1, 0)), ("use", 2, (1, 3, 0)), ("use", 0, (1, 2, 0))])
        do_rows(loom, [("use", 0, (2, 1, 1)), ("use", 0, (2, 2, 0))])
        come_all(picture, [(1, 0), (1, 2), (2, 0), (2, 1)])
        self.assertEqual(picture.line(), [0, 4, 3])

    def test_the_place_is_taken_at_the_first_mark_alone(self):
        loom = three_hands()
        picture = Picture(loom, 0)
        come_all(picture, [(0, 1), (0, 2)])
        do_rows(loom, [("own", 0), ("own", 1), ("own", 2)])
        come_all(picture, [(1, 0), (1, 2), (2, 0), (2, 1)])
        self.assertEqual((picture.line(), picture.letters()), ([0, 0, 0], []))


class ComesByItselfTest(unittest.TestCase):
    def test_just_ahead_of_the_use_of_a_letter_sent_behind_it(self):
        loom = two_hands()
        picture = Picture(loom, 0)
        do_rows(loom, [("own", 0), ("own", 1), ("own", 1)])
        loom.use(1, (0, 1, 0))
        refused(self, NoMark, picture.come, 0, 1)
        # The place is the one ahead of the use, and so both earlier letters are ahead of the mark back.
        refused(self, TooSoon, picture.come, 1, 0)
        loom.use(0, (1, 1, 0))
        refused(self, TooSoon, picture.come, 1, 0)
        loom.use(0, (1, 2, 0))
        picture.come(1, 0)
        self.assertEqual((picture.line(), picture.letters()), ([0, 2], [(1, 1, 0), (1, 2, 0)]))

    def test_what_that_use_itself_sends_is_behind_the_marks(self):
        loom = two_hands()
        picture = Picture(loom, 0)
        do_rows(loom, [("own", 0), ("use", 1, (0, 1, 0))])
        self.assertEqual(loom.road(), [(1, 1, 0)])
        picture.come(1, 0)
        self.assertEqual((picture.line(), picture.letters()), ([0, 0], []))

    def test_marks_follow_one_another_from_use_to_use(self):
        loom = two_hands()
        picture = Picture(loom, 0)
        do_rows(loom, [("own", 0), ("use", 1, (0, 1, 0)), ("own", 1), ("use", 0, (1, 1, 0))])
        self.assertTrue(picture.is_done())
        self.assertEqual((picture.line(), picture.letters()), ([0, 0], []))

    def test_uses_of_letters_ahead_of_it_bring_none(self):
        loom = two_hands([("own", 0), ("own", 0)])
        picture = Picture(loom, 0)
        do_rows(loom, [("own", 0), ("use", 1, (0, 1, 0)), ("use", 1, (0, 2, 0))])
        picture.come(0, 1)
        do_rows(loom, [("use", 0, (1, 1, 0)), ("use", 0, (1, 2, 0))])
        picture.come(1, 0)
        self.assertEqual((picture.line(), picture.letters()), ([2, 2], [(1, 1, 0), (1, 2, 0)]))

    def test_uses_of_letters_to_itself_bring_none(self):
        loom = three_hands([("own", 2)])
        picture = Picture(loom, 2)
        loom.use(2, (2, 1, 0))
        self.assertEqual(loom.places(), [0, 0, 2])
        # Of the two letters on the way to 0 the first is ahead of the mark.
        refused(self, TooSoon, picture.come, 2, 0)
        loom.use(0, (2, 1, 1))
        come_all(picture, [(2, 0), (2, 1)])

    def test_own_deeds_and_writings_bring_none(self):
        loom = two_hands()
        picture = Picture(loom, 0)
        do_rows(loom, [("own", 0), ("write", 0), ("own", 1), ("write", 1), ("own", 1), ("write", 1), ("own", 0)])
        self.assertFalse(picture.is_done())
        refused(self, NoMark, picture.come, 1, 0)
        picture.come(0, 1)
        refused(self, TooSoon, picture.come, 1, 0)
        do_rows(loom, [("use", 0, (1, 1, 0)), ("use", 0, (1, 2, 0)), ("write", 0)])
        self.assertFalse(picture.is_done())
        picture.come(1, 0)
        self.assertEqual(picture.line(), [0, 2])

    def test_two_letters_of_one_deed_the_first_one_brings_it(self):
        loom = done_again(counting({(0, 1): [(1, 5), (1, 6)]}), [0, 0], [Each(), Each()], True, [])
        picture = Picture(loom, 0)
        do_rows(loom, [("own", 0), ("own", 1), ("use", 1, (0, 1, 0)), ("own", 1), ("use", 1, (0, 1, 1))])
        picture.come(1, 0)
        self.assertEqual(picture.line(), [0, 1])

    def test_a_deed_by_which_the_place_was_led_to_is_ahead_of_the_marks(self):
        loom = done_again(counting({(0, 1): [(1, 5), (1, 6)]}), [0, 0], [Each(), Each()], True, [("own", 0)])
        picture = Picture(loom, 0)
        loom.use(1, (0, 1, 0))
        refused(self, TooSoon, picture.come, 0, 1)
        loom.use(1, (0, 1, 1))
        come_all(picture, [(0, 1), (1, 0)])
        self.assertEqual((picture.line(), picture.letters()), ([1, 2], []))

    def test_rows_done_ahead_of_the_begin_bring_none(self):
        loom = two_hands([("own", 0), ("use", 1, (0, 1, 0)), ("use", 0, (1, 1, 0))])
        picture = Picture(loom, 0)
        refused(self, NoMark, picture.come, 1, 0)
        self.assertFalse(picture.is_done())
        refused(self, TooSoon, picture.come, 0, 1)
        loom.use(1, (0, 2, 0))
        picture.come(0, 1)
        loom.use(0, (1, 2, 0))
        picture.come(1, 0)
        self.assertEqual((picture.line(), picture.letters()), ([2, 2], [(1, 2, 0)]))


class DoneTest(unittest.TestCase):
    def test_ahead_of_the_end_and_behind_it(self):
        loom = three_hands([("own", 0)])
        picture = Picture(loom, 0)
        loom.use(1, (0, 1, 0))
        for sender, to in ((0, 1), (1, 0), (0, 2), (2, 0), (2, 1), (1, 2)):
            self.assertIs(picture.is_done(), False)
            refused(self, NotDone, picture.line)
            refused(self, NotDone, picture.letters)
            if (sender, to) == (1, 2):
                loom.use(2, (1, 1, 0))
            picture.come(sender, to)
        self.assertIs(picture.is_done(), True)
        self.assertEqual((picture.line(), picture.letters()), ([1, 1, 0], [(1, 1, 0)]))

    def test_all_places_taken_is_not_done_while_a_mark_is_on_its_way(self):
        loom = two_hands([("own", 1)])
        picture = Picture(loom, 0)
        picture.come(0, 1)
        refused(self, TooSoon, picture.come, 1, 0)
        self.assertIs(picture.is_done(), False)
        refused(self, NotDone, picture.line)

    def test_letters_but_for_those_of_a_hand_to_itself(self):
        loom = three_hands([("own", 2), ("own", 2), ("own", 0), ("own", 0)])
        picture = Picture(loom, 2)
        do_rows(loom, [("use", 1, (0, 1, 0)), ("use", 2, (2, 1, 0))])
        do_rows(loom, [("use", 0, (2, 1, 1)), ("use", 0, (2, 2, 0))])
        come_all(picture, [(2, 1), (2, 0)])
        # Three letters that hand 0 sent at or ahead of its place are not used yet.
        refused(self, TooSoon, picture.come, 0, 1)
        do_rows(loom, [("use", 1, (0, 2, 0)), ("use", 1, (0, 3, 0)), ("use", 1, (0, 4, 0))])
        do_rows(loom, [("use", 2, (1, 1, 0))])
        come_all(picture, [(0, 1), (1, 0), (0, 2), (1, 2)])
        self.assertEqual(picture.line(), [4, 1, 2])
        self.assertEqual(picture.letters(), [(0, 2, 0), (0, 3, 0), (0, 4, 0), (1, 1, 0)])
        self.assertEqual(on_road(loom, [4, 1, 2]), sorted(picture.letters() + [(0, 4, 1), (2, 1, 0)]))

    def test_asked_again_when_the_loom_was_woven_on(self):
        loom = two_hands([("own", 0), ("own", 1)])
        picture = Picture(loom, 0)
        do_rows(loom, [("use", 1, (0, 1, 0)), ("own", 1), ("own", 0), ("use", 1, (0, 2, 0))])
        do_rows(loom, [("use", 0, (1, 1, 0)), ("use", 0, (1, 2, 0)), ("use", 0, (1, 3, 0))])
        refused(self, NotDone, picture.line)
        loom.use(0, (1, 4, 0))
        for turn in range(5):
            self.assertEqual(picture.letters(), [(1, 1, 0), (1, 2, 0), (1, 3, 0)])
            self.assertIs(picture.is_done(), True)
            self.assertEqual(picture.line(), [1, 3])
            refused(self, NoMark, picture.come, 0, 1)
            refused(self, NoMark, picture.come, 1, 0)
            do_rows(loom, [("own", 0), ("own", 1), ("use", 1, (0, 3 + turn, 0)), ("write", 0), ("write", 1)])

    def test_done_by_rows_alone_and_asked_late(self):
        rows = [("own", 0), ("own", 1), ("use", 1, (0, 1, 0)), ("use", 0, (1, 1, 0)), ("use", 0, (1, 2, 0))]
        for asked in (Picture.is_done, Picture.line, Picture.letters):
            loom = two_hands()
            picture = Picture(loom, 0)
            do_rows(loom, rows + [("own", 0), ("own", 1)] * 3)
            self.assertEqual(asked(picture), {
                Picture.is_done: True, Picture.line: [0, 1], Picture.letters: [(1, 1, 0)],
            }[asked])

    def test_what_is_told_is_the_askers_own(self):
        loom = two_hands([("own", 1)])
        picture = Picture(loom, 0)
        picture.come(0, 1)
        loom.use(0, (1, 1, 0))
        picture.come(1, 0)
        picture.line()[0] = 7
        picture.line().append(7)
        picture.letters().clear()
        self.assertEqual((picture.line(), picture.letters()), ([0, 1], [(1, 1, 0)]))

    def test_a_picture_changes_nothing_of_the_loom(self):
        loom = two_hands([("own", 0), ("write", 0), ("own", 1)])
        before = told(loom)
        picture = Picture(loom, 0)
        refused(self, TooSoon, picture.come, 0, 1)
        refused(self, NotDone, picture.letters)
        self.assertEqual(told(loom), before)
        loom.use(1, (0, 1, 0))
        before = told(loom)
        picture.come(0, 1)
        refused(self, NoMark, picture.come, 0, 1)
        self.assertIs(picture.is_done(), False)
        self.assertEqual(told(loom), before)

    def test_two_pictures_of_one_loom_know_nothing_of_one_another(self):
        loom = two_hands()
        one = Picture(loom, 0)
        loom.own(1)
        other = Picture(loom, 1)
        one.come(0, 1)
        refused(self, NoMark, other.come, 0, 1)
        refused(self, TooSoon, other.come, 1, 0)
        loom.use(0, (1, 1, 0))
        one.come(1, 0)
        self.assertEqual((one.is_done(), other.is_done()), (True, False))
        other.come(1, 0)
        loom.use(1, (0, 1, 0))
        other.come(0, 1)
        self.assertEqual((one.line(), one.letters()), ([0, 1], [(1, 1, 0)]))
        self.assertEqual((other.line(), other.letters()), ([1, 1], [(0, 1, 0)]))

    def test_a_picture_begun_behind_a_going_back(self):
        loom = two_hands([("own", 0), ("write", 0), ("own", 0), ("own", 0), ("use", 1, (0, 1, 0))])
        fall(loom, [0])
        self.assertEqual((loom.places(), loom.road()), ([1, 1], [(1, 1, 0)]))
        picture = Picture(loom, 0)
        do_rows(loom, [("own", 0), ("use", 1, (0, 2, 0)), ("use", 0, (1, 1, 0))])
        picture.come(1, 0)
        self.assertEqual((picture.line(), picture.letters()), ([1, 1], [(1, 1, 0)]))

    def test_throwing_away_between_changes_nothing(self):
        loom = two_hands([("own", 0), ("write", 0), ("own", 1), ("write", 1)])
        picture = Picture(loom, 0)
        Keeper(loom).throw()
        self.assertEqual((loom.points(0), loom.points(1)), ([1], [1]))
        do_rows(loom, [("use", 1, (0, 1, 0)), ("use", 0, (1, 1, 0)), ("write", 0), ("write", 1)])
        Keeper(loom).throw()
        picture.come(0, 1)
        loom.use(0, (1, 2, 0))
        picture.come(1, 0)
        Keeper(loom).throw()
        self.assertEqual((picture.line(), picture.letters()), ([1, 2], [(1, 1, 0), (1, 2, 0)]))


class BesideThePlainModelTest(unittest.TestCase):
    def check(self, picture, plain):
        self.assertIs(picture.is_done(), plain.is_done())
        if not plain.is_done():
            refused(self, NotDone, picture.line)
            refused(self, NotDone, picture.letters)
            return
        line, letters = picture.line(), picture.letters()
        self.assertEqual((line, letters), (plain.line(), sorted(plain.between)))
        self.assertEqual(plainly_broken(plain.loom, line), [])
        self.assertTrue(is_sound(plain.loom, line))
        self.assertEqual(letters, plain_letters(plain.loom, line))

    def come(self, pictures, plain, chance):
        hands = range(-1, plain.loom.many + 1)
        sender, to = chance.choice(hands), chance.choice(hands)
        refusal = plain.refusal(sender, to)
        for picture in pictures:
            if refusal:
                refused(self, refusal, picture.come, sender, to)
            else:
                picture.come(sender, to)
        if not refusal:
            plain.bring((sender, to))

    def weave(self, seed):
        weaving = sparing_weaving(seed)
        loom, chance = weaving.loom, weaving.chance
        weaving.weave(chance.randrange(30))
        for turn in range(chance.randrange(3)):
            fall(loom, weaving.some_hands())
            weaving.weave(chance.randrange(15))
        begun = []
        for turn in range(200):
            draw = chance.random()
            if draw < 0.1 and len(begun) < 3:
                hand = chance.randrange(loom.many)
                # Two pictures at once: the first is asked all the time, the second only what can't be left out.
                begun.append(([Picture(loom, hand), Picture(loom, hand)], PlainPicture(loom, hand)))
            elif draw < 0.4 and begun:
                self.come(*chance.choice(begun), chance)
            elif draw < 0.43:
                Keeper(loom).throw()
            else:
                self.follow(loom, random_row(loom, chance), [plain for pictures, plain in begun])
            for pictures, plain in begun:
                self.check(pictures[0], plain)
        for pictures, plain in begun:
            self.check(pictures[1], plain)
        return sum(plain.is_done() for pictures, plain in begun)

    def follow(self, loom, row, plains):
        for plain in plains:
            plain.ahead_of(row)
        do_row(loom, row)
        for plain in plains:
            plain.behind(row)

    def test_weavings_by_chance(self):
        done = 0
        for seed in range(80):
            with self.subTest(seed):
                done += self.weave(seed)
        # Most of them come to their end, so that lines and letters are looked at, too.
        self.assertGreater(done, 100)


def rows_by_line(loom, line):
    """The rows at or ahead of a line in their order, and behind them all others in theirs, by the words of [27]."""
    stood, within, others = [0] * loom.many, [], []
    for row in loom.rows():
        stood[row[1]] += row[0] != "write"
        (within if stood[row[1]] <= line[row[1]] else others).append(row)
    return within, others


class RowsByLineTest(unittest.TestCase):
    def check(self, made_of, loom, line, points_too):
        within, others = rows_by_line(loom, line)
        self.assertEqual(again(*made_of, within).places(), line)
        other = again(*made_of, within + others)
        told_now, told_then = told(other), told(loom)
        self.assertEqual(told_now.pop("rows"), within + others)
        told_then.pop("rows")
        if not points_too:
            told_now, told_then = but_points(told_now), but_points(told_then)
        self.assertEqual(told_now, told_then)

    def test_each_sound_line_of_small_looms(self):
        for seed in range(24):
            weaving = Weaving(seed)
            weaving.weave(14)
            for line in all_lines(weaving.loom):
                if is_sound(weaving.loom, line):
                    with self.subTest((seed, line)):
                        self.check(weaving.made_of, weaving.loom, line, True)

    def test_a_loom_that_went_back_and_threw_away(self):
        for seed in range(16):
            weaving = Weaving(seed)
            for turn in range(3):
                weaving.weave(5)
                fall(weaving.loom, weaving.some_hands())
                Keeper(weaving.loom).throw()
            for line in all_lines(weaving.loom):
                if is_sound(weaving.loom, line):
                    with self.subTest((seed, line)):
                        self.check(weaving.made_of, weaving.loom, line, False)

    def test_the_lines_of_pictures(self):
        for seed in range(30):
            weaving = sparing_weaving(seed)
            loom = weaving.loom
            ways = [(sender, to) for sender in range(loom.many) for to in range(loom.many)]
            weaving.weave(10 + seed)
            picture = Picture(loom, seed % loom.many)
            while not picture.is_done():
                weaving.weave(2)
                for sender, to in ways:
                    try:
                        picture.come(sender, to)
                    except (NoMark, TooSoon):
                        continue
            weaving.weave(10)
            with self.subTest(seed):
                self.check(weaving.made_of, loom, picture.line(), True)
