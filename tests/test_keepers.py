"""The base, what keepers tell the world, and what they throw away [22] to [24]."""

import unittest

from backline.backs import again, fall
from backline.falls import allowed_points, greatest_line, is_shown
from backline.habits import Bundle, Each, Never
from backline.keepers import Keeper, base_of
from backline.looms import Loom
from tests.weaving import (
    Weaving, but_points, counting, do_row, done_again, greatest_by_search, random_row, sets_of_hands, told,
)

# Each deed of both hands says something but hand 0's second one; hand 1 uses two letters of hand 0.
LETTERS = {(0, 1): [(1, 1)], (0, 3): [(1, 3)]}
WORDS = {
    (0, 1): [11, 10], (0, 3): [13], (0, 4): [14], (0, 5): [15], (1, 1): [21], (1, 2): [23, 22], (1, 3): [21],
    (1, 4): [24],
}


def two_hands(habits):
    return Loom(counting(LETTERS, WORDS), [0, 0], habits, True)


def do_rows(loom, rows):
    for row in rows:
        do_row(loom, row)


class BaseTest(unittest.TestCase):
    def test_it_is_the_greatest_line_for_all_hands(self):
        loom = two_hands([Never(), Each()])
        self.assertEqual(base_of(loom), [0, 0])
        do_rows(loom, [("own", 1), ("own", 0), ("use", 1, (0, 1, 0))])
        self.assertEqual(base_of(loom), [0, 1])
        loom.write(0)
        self.assertEqual(base_of(loom), [1, 2])
        do_rows(loom, [("own", 0), ("own", 0), ("use", 1, (0, 3, 0)), ("own", 1)])
        self.assertEqual(base_of(loom), [1, 2])
        loom.write(0)
        self.assertEqual(base_of(loom), [3, 4])

    def test_by_the_habits(self):
        for habit, place in ((Never(), 0), (Each(), 5), (Bundle(1), 5), (Bundle(2), 4), (Bundle(5), 5), (Bundle(6), 0)):
            loom = done_again(counting(), [0, 0], [habit, Each()], False, [("own", 0)] * 5)
            self.assertEqual(base_of(loom), [place, 0])

    def test_the_loom_stays_and_the_line_is_the_askers_own(self):
        loom = two_hands([Each(), Each()])
        do_rows(loom, [("own", 0), ("use", 1, (0, 1, 0))])
        before = told(loom)
        base_of(loom)[0] = 0
        self.assertEqual((base_of(loom), told(loom)), ([1, 1], before))

    def weave(self, seed):
        weaving = Weaving(seed)
        loom, base = weaving.loom, [0] * weaving.loom.many
        for turn in range(50):
            draw = weaving.chance.random()
            if draw < 0.1:
                fall(loom, weaving.some_hands())
            elif draw < 0.2:
                Keeper(loom).throw()
            else:
                do_row(loom, random_row(loom, weaving.chance))
            later = base_of(loom)
            self.assertEqual(later, greatest_by_search(loom, range(loom.many)))
            self.assertTrue(all(place >= earlier for place, earlier in zip(later, base)))
            for fallen in sets_of_hands(loom.many):
                line = greatest_line(loom, fallen)[0]
                self.assertTrue(all(place >= least for place, least in zip(line, later)))
            base = later

    def test_no_place_of_a_later_base_is_less_and_every_greatest_line_is_at_or_beyond_it(self):
        for seed in range(40):
            with self.subTest(seed):
                self.weave(seed)


class TellTest(unittest.TestCase):
    def test_words_of_events_at_or_ahead_of_the_base_each_once(self):
        loom = two_hands([Never(), Never()])
        keeper = Keeper(loom)
        self.assertEqual((keeper.tell(), keeper.heard()), ([], []))
        do_rows(loom, [("own", 0), ("use", 1, (0, 1, 0)), ("own", 1), ("write", 1)])
        # Hand 1 used what hand 0 has not written down.
        self.assertEqual((keeper.tell(), keeper.heard()), ([], []))
        loom.write(0)
        first = [(0, 1, 11), (0, 1, 10), (1, 1, 21), (1, 2, 23), (1, 2, 22)]
        self.assertEqual(keeper.tell(), first)
        self.assertEqual((keeper.tell(), keeper.heard()), ([], first))
        do_rows(loom, [("own", 0), ("own", 0), ("use", 1, (0, 3, 0)), ("own", 0), ("write", 0), ("own", 0)])
        second = [(0, 3, 13), (0, 4, 14)]
        self.assertEqual((keeper.tell(), keeper.heard()), (second, first + second))
        loom.write(1)
        third = [(1, 3, 21)]
        self.assertEqual((keeper.tell(), keeper.heard()), (third, first + second + third))
        do_rows(loom, [("own", 1), ("write", 0), ("write", 1)])
        fourth = [(0, 5, 15), (1, 4, 24)]
        self.assertEqual((keeper.tell(), keeper.heard()), (fourth, first + second + third + fourth))

    def test_the_same_word_is_told_for_each_time_it_was_said(self):
        loom = Loom(counting({}, {(0, 1): [5, 5], (0, 2): [5], (1, 1): [5]}), [0, 0], [Each(), Each()], True)
        do_rows(loom, [("own", 0), ("own", 0), ("own", 1)])
        self.assertEqual(Keeper(loom).tell(), [(0, 1, 5), (0, 1, 5), (0, 2, 5), (1, 1, 5)])

    def test_by_the_hands_numbers_not_by_the_rows(self):
        loom = two_hands([Each(), Each()])
        do_rows(loom, [("own", 1), ("own", 0), ("own", 1)])
        self.assertEqual(Keeper(loom).tell(), [(0, 1, 11), (0, 1, 10), (1, 1, 21), (1, 2, 23), (1, 2, 22)])

    def test_two_keepers_know_nothing_of_one_another(self):
        loom = two_hands([Each(), Each()])
        early = Keeper(loom)
        loom.own(0)
        self.assertEqual(early.tell(), [(0, 1, 11), (0, 1, 10)])
        late = Keeper(loom)
        self.assertEqual((late.heard(), early.heard()), ([], [(0, 1, 11), (0, 1, 10)]))
        loom.own(1)
        self.assertEqual(late.tell(), [(0, 1, 11), (0, 1, 10), (1, 1, 21)])
        self.assertEqual((late.tell(), early.tell()), ([], [(1, 1, 21)]))
        self.assertEqual(early.heard(), late.heard())

    def test_keepers_of_two_looms(self):
        one, other = two_hands([Each(), Each()]), two_hands([Each(), Each()])
        keepers = [Keeper(one), Keeper(other)]
        one.own(0)
        self.assertEqual([keeper.tell() for keeper in keepers], [[(0, 1, 11), (0, 1, 10)], []])
        other.own(1)
        self.assertEqual([keeper.tell() for keeper in keepers], [[], [(1, 1, 21)]])

    def test_words_of_undone_deeds_are_not_told(self):
        deeds = {(0, 0, None): (1, [], [7]), (1, 0, None): (1, [(0, 9)], []), (0, 0, 9): (2, [], [8])}
        loom = Loom(lambda hand, state, word: deeds[(hand, state, word)], [0, 0], [Never(), Never()], True)
        keeper = Keeper(loom)
        do_rows(loom, [("own", 0), ("own", 1), ("write", 1)])
        self.assertEqual(keeper.tell(), [])
        fall(loom, [0])
        do_rows(loom, [("use", 0, (1, 1, 0)), ("write", 0)])
        self.assertEqual((keeper.tell(), keeper.heard()), ([(0, 1, 8)], [(0, 1, 8)]))

    def test_telling_leaves_the_loom_as_it_was(self):
        loom = two_hands([Each(), Bundle(2)])
        do_rows(loom, [("own", 0), ("use", 1, (0, 1, 0)), ("own", 1)])
        before = told(loom)
        keeper = Keeper(loom)
        keeper.tell()
        keeper.heard()
        self.assertEqual(told(loom), before)

    def test_lists_that_were_told_are_the_askers_own(self):
        loom = two_hands([Each(), Each()])
        keeper = Keeper(loom)
        loom.own(0)
        first = keeper.tell()
        first.append((9, 9, 9))
        first.pop(0)
        words = [(0, 1, 11), (0, 1, 10)]
        self.assertEqual(keeper.heard(), words)
        keeper.heard().clear()
        keeper.heard().append((9, 9, 9))
        self.assertEqual((keeper.heard(), keeper.tell()), (words, []))
        loom.own(1)
        self.assertEqual(keeper.tell(), [(1, 1, 21)])
        words_told = loom.words_of(0)
        words_told[0].clear()
        self.assertEqual(Keeper(loom).tell(), words + [(1, 1, 21)])


class ThrowTest(unittest.TestCase):
    def test_writings_ahead_of_the_base_are_thrown_away(self):
        loom = two_hands([Never(), Each()])
        rows = [("own", 0), ("write", 0), ("own", 0), ("write", 0), ("own", 1), ("write", 1), ("own", 1), ("own", 0)]
        do_rows(loom, rows)
        before = told(loom)
        self.assertEqual((loom.points(0), loom.points(1), base_of(loom)), ([0, 1, 2], [0, 1, 2], [2, 2]))
        self.assertIsNone(Keeper(loom).throw())
        self.assertEqual((loom.points(0), loom.points(1), base_of(loom)), ([2], [1, 2], [2, 2]))
        self.assertEqual(but_points(told(loom)), but_points(before))

    def test_writings_behind_the_base_stay(self):
        loom = two_hands([Never(), Never()])
        do_rows(loom, [
            ("own", 1), ("write", 1), ("own", 0), ("use", 1, (0, 1, 0)), ("write", 1), ("own", 1), ("write", 1),
        ])
        self.assertEqual((base_of(loom), loom.points(1)), ([0, 1], [0, 1, 2, 3]))
        Keeper(loom).throw()
        self.assertEqual((base_of(loom), loom.points(0), loom.points(1)), ([0, 1], [0], [1, 2, 3]))
        loom.write(0)
        self.assertEqual(base_of(loom), [1, 3])
        self.assertEqual(fall(loom, [0, 1]), ([1, 3], []))

    def test_throwing_twice_is_throwing_once(self):
        loom = two_hands([Never(), Bundle(2)])
        do_rows(loom, [("own", 0), ("write", 0), ("own", 1), ("write", 1), ("own", 1), ("own", 0)])
        keeper = Keeper(loom)
        keeper.throw()
        before = told(loom)
        keeper.throw()
        Keeper(loom).throw()
        self.assertEqual(told(loom), before)

    def test_a_loom_of_which_nothing_is_done(self):
        loom = two_hands([Never(), Each()])
        before = told(loom)
        Keeper(loom).throw()
        self.assertEqual(told(loom), before)

    def test_throwing_tells_nothing(self):
        loom = two_hands([Each(), Each()])
        keeper = Keeper(loom)
        loom.own(0)
        keeper.throw()
        self.assertEqual(keeper.heard(), [])
        self.assertEqual(keeper.tell(), [(0, 1, 11), (0, 1, 10)])


class WeavingsTest(unittest.TestCase):
    """Many weavings with falls, told by keepers made at different times, and thrown away on one of two twins."""

    def tell(self, loom, heard):
        for keeper in heard:
            said = [
                (hand, place, word)
                for hand, end in enumerate(base_of(loom))
                for place, words in enumerate(loom.words_of(hand)[:end], start=1) for word in words
            ]
            events = {words[:2] for words in heard[keeper]}
            new = keeper.tell()
            self.assertEqual(new, [words for words in said if words[:2] not in events])
            heard[keeper] += new
            self.assertEqual(keeper.heard(), heard[keeper])

    def assert_never_undone(self, loom, heard):
        for keeper in heard:
            told_words = {}
            for hand, place, word in keeper.heard():
                told_words.setdefault((hand, place), []).append(word)
            for (hand, place), words in told_words.items():
                self.assertEqual(loom.words_of(hand)[place - 1], words)

    def test_what_was_told_is_never_undone_and_none_is_told_twice(self):
        for seed in range(48):
            with self.subTest(seed):
                weaving = Weaving(seed)
                loom, heard = weaving.loom, {Keeper(weaving.loom): []}
                for turn in range(60):
                    draw = weaving.chance.random()
                    if draw < 0.1:
                        fall(loom, weaving.some_hands())
                    elif draw < 0.15:
                        weaving.chance.choice(list(heard)).throw()
                    elif draw < 0.25:
                        self.tell(loom, heard)
                    else:
                        do_row(loom, random_row(loom, weaving.chance))
                    if turn in (20, 40):
                        heard[Keeper(loom)] = []
                    self.assert_never_undone(loom, heard)
                self.tell(loom, heard)
                words = [sorted(told_words) for told_words in heard.values()]
                self.assertEqual(words[0], words[1])
                self.assertEqual(words[0], words[2])

    def assert_twins(self, loom, twin):
        self.assertEqual(but_points(told(twin)), but_points(told(loom)))
        self.assertEqual(base_of(twin), base_of(loom))
        for fallen in sets_of_hands(loom.many):
            line, paper = greatest_line(loom, fallen)
            other, other_paper = greatest_line(twin, fallen)
            self.assertEqual(other, line)
            self.assertIs(is_shown(twin, fallen, line, paper), True)
            self.assertIs(is_shown(loom, fallen, line, other_paper), True)
            for kept, points in zip(allowed_points(twin, fallen), allowed_points(loom, fallen)):
                self.assertEqual(kept, points[-len(kept):])

    def test_what_is_thrown_away_is_missed_by_no_later_fall(self):
        thrown = []
        for seed in range(48):
            with self.subTest(seed):
                weaving = Weaving(seed)
                loom, twin = weaving.loom, again(*weaving.made_of, [])
                keeper = Keeper(twin)
                for turn in range(60):
                    draw = weaving.chance.random()
                    if draw < 0.1:
                        fallen = weaving.some_hands()
                        self.assertEqual(fall(twin, fallen)[0], fall(loom, fallen)[0])
                    elif draw < 0.25:
                        before = told(twin)
                        keeper.throw()
                        self.assertEqual(but_points(told(twin)), but_points(before))
                        thrown.append(told(twin) != before)
                    else:
                        row = random_row(loom, weaving.chance)
                        do_row(loom, row)
                        do_row(twin, row)
                    self.assert_twins(loom, twin)
                self.assertEqual(keeper.tell(), Keeper(loom).tell())
        self.assertGreater(thrown.count(True), 48)
