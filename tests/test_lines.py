"""Lines, the letters that break them, and those on the road across them [13], [14]."""

import itertools
import unittest

from backline.habits import Each, Never
from backline.lines import broken_by, is_sound, joined, met_of, on_road
from backline.looms import Loom
from tests.weaving import Weaving, all_lines, counting, done_again, plainly_broken, told

# Hand 1 uses two letters of hand 0 and one of its own; hand 0 one of hand 1 and one of its own; one is not used.
LETTERS = {
    (0, 1): [(1, 10), (0, 11)],
    (0, 2): [(1, 20)],
    (1, 1): [(0, 30), (0, 31)],
    (1, 2): [(1, 40)],
}
FIRST, OWN_OF_0, SECOND, BACK, LEFT, OWN_OF_1 = (0, 1, 0), (0, 1, 1), (0, 2, 0), (1, 1, 0), (1, 1, 1), (1, 2, 0)
ROWS = [
    ("own", 0), ("use", 1, FIRST), ("use", 0, BACK), ("use", 1, SECOND), ("use", 0, OWN_OF_0), ("use", 1, OWN_OF_1),
]


def two_hands(ordered=False):
    return done_again(counting(LETTERS), [0, 0], [Never(), Each()], ordered, ROWS)


def crowded():
    """Hands 0 and 1 did eleven deeds each, with two letters each time to hand 2, which used seven of them."""
    letters = {(hand, place): [(2, place), (2, place)] for hand in (0, 1) for place in range(1, 12)}
    loom = Loom(counting(letters), [0, 0, 0], [Never()] * 3, False)
    for turn in range(11):
        loom.own(1)
        loom.own(0)
    for name in ((1, 10, 1), (0, 11, 0), (1, 9, 0), (0, 9, 1), (0, 10, 0), (1, 10, 0), (0, 2, 0)):
        loom.use(2, name)
    return loom


class BrokenTest(unittest.TestCase):
    def test_letters_used_at_or_ahead_of_a_line_and_sent_behind_it(self):
        broken = {
            (0, 0): [], (0, 1): [FIRST], (0, 2): [FIRST, SECOND], (0, 3): [FIRST, SECOND],
            (1, 0): [], (1, 1): [], (1, 2): [SECOND], (1, 3): [SECOND],
            (2, 0): [BACK], (2, 1): [], (2, 2): [], (2, 3): [],
            (3, 0): [BACK], (3, 1): [], (3, 2): [], (3, 3): [],
        }
        loom = two_hands()
        self.assertEqual([list(line) for line in broken], all_lines(loom))
        for line, names in broken.items():
            self.assertEqual(broken_by(loom, list(line)), names)
            self.assertIs(is_sound(loom, list(line)), names == [])

    def test_a_letter_to_oneself_breaks_no_line(self):
        loom = Loom(counting({(0, 1): [(0, 5)], (0, 2): [(0, 6), (0, 7)]}), [0, 0], [Never(), Never()], False)
        loom.own(0)
        loom.use(0, (0, 1, 0))
        loom.use(0, (0, 2, 1))
        for line in all_lines(loom):
            self.assertEqual(broken_by(loom, line), [])
            self.assertIs(is_sound(loom, line), True)

    def test_a_letter_that_is_not_used_breaks_no_line(self):
        loom = Loom(counting({(0, 1): [(1, 5)]}), [0, 0], [Never(), Never()], True)
        loom.own(0)
        loom.own(1)
        self.assertEqual([broken_by(loom, line) for line in all_lines(loom)], [[], [], [], []])

    def test_names_are_sorted_as_tuples_are(self):
        loom = crowded()
        self.assertEqual(broken_by(loom, [0, 0, 7]), [
            (0, 2, 0), (0, 9, 1), (0, 10, 0), (0, 11, 0), (1, 9, 0), (1, 10, 0), (1, 10, 1),
        ])
        self.assertEqual(broken_by(loom, [10, 0, 3]), [(0, 11, 0), (1, 9, 0), (1, 10, 1)])

    def test_where_all_stand_and_where_all_begin(self):
        for loom in (two_hands(), crowded(), Loom(counting(), [0, 0], [Never(), Never()], True)):
            self.assertIs(is_sound(loom, loom.places()), True)
            self.assertIs(is_sound(loom, [0] * loom.many), True)


class RoadTest(unittest.TestCase):
    def test_letters_sent_at_or_ahead_of_a_line_and_not_used_there(self):
        road = {
            (0, 0): [], (0, 1): [BACK, LEFT], (0, 2): [BACK, LEFT, OWN_OF_1], (0, 3): [BACK, LEFT],
            (1, 0): [FIRST, OWN_OF_0], (1, 1): [OWN_OF_0, BACK, LEFT],
            (1, 2): [OWN_OF_0, BACK, LEFT, OWN_OF_1], (1, 3): [OWN_OF_0, BACK, LEFT],
            (2, 0): [FIRST, OWN_OF_0, SECOND], (2, 1): [OWN_OF_0, SECOND, LEFT],
            (2, 2): [OWN_OF_0, LEFT, OWN_OF_1], (2, 3): [OWN_OF_0, LEFT],
            (3, 0): [FIRST, SECOND], (3, 1): [SECOND, LEFT], (3, 2): [LEFT, OWN_OF_1], (3, 3): [LEFT],
        }
        loom = two_hands()
        self.assertEqual([list(line) for line in road], all_lines(loom))
        for line, names in road.items():
            self.assertEqual(on_road(loom, list(line)), names)

    def test_where_all_stand_it_is_the_road(self):
        for loom in (two_hands(), crowded()):
            self.assertEqual(on_road(loom, loom.places()), loom.road())

    def test_names_are_sorted_as_tuples_are(self):
        loom = crowded()
        self.assertEqual(on_road(loom, [0, 11, 7])[-6:], [
            (1, 7, 1), (1, 8, 0), (1, 8, 1), (1, 9, 1), (1, 11, 0), (1, 11, 1),
        ])
        self.assertEqual(on_road(loom, [11, 11, 0]), sorted(loom.letters_sent()))


class TwoLinesTest(unittest.TestCase):
    def test_the_greater_and_the_lesser_one_place_by_place(self):
        for one, other, greater, lesser in (
            ([3, 0], [1, 2], [3, 2], [1, 0]),
            ([1, 1, 5], [1, 1, 4], [1, 1, 5], [1, 1, 4]),
            ([10, 9, 0, 7, 2], [9, 10, 0, 6, 3], [10, 10, 0, 7, 3], [9, 9, 0, 6, 2]),
            ([4, 4], [4, 4], [4, 4], [4, 4]),
        ):
            self.assertEqual((joined(one, other), joined(other, one)), (greater, greater))
            self.assertEqual((met_of(one, other), met_of(other, one)), (lesser, lesser))

    def test_lines_handed_in_stay_and_lines_told_are_new(self):
        for call in (joined, met_of):
            one, other = [4, 4], [3, 5]
            for line in (call(one, other), call(one, one), call(other, one)):
                line[0] = 99
                line.append(7)
            self.assertEqual((one, other), ([4, 4], [3, 5]))
            self.assertEqual(call([4, 4], [4, 4]), [4, 4])

    def test_where_both_are_sound_these_are_too(self):
        for seed in range(24):
            weaving = Weaving(seed)
            weaving.weave(14)
            sound = [line for line in all_lines(weaving.loom) if not plainly_broken(weaving.loom, line)]
            sound = weaving.chance.sample(sound, min(len(sound), 30))
            for one, other in itertools.combinations(sound, 2):
                for line in (joined(one, other), met_of(one, other)):
                    self.assertEqual(plainly_broken(weaving.loom, line), [])
                    self.assertIs(is_sound(weaving.loom, line), True)


class HandedInTest(unittest.TestCase):
    def test_the_loom_and_the_line_stay_as_they_were(self):
        loom = two_hands()
        before = told(loom)
        line = [0, 2]
        for call in (broken_by, is_sound, on_road):
            call(loom, line)
            self.assertEqual((line, told(loom)), ([0, 2], before))

    def test_lists_that_were_told_are_the_askers_own(self):
        loom = two_hands()
        for call in (broken_by, on_road):
            names = call(loom, [0, 2])
            again = list(names)
            names.append((7, 7, 7))
            names.pop(0)
            self.assertEqual(call(loom, [0, 2]), again)


class WeavingsTest(unittest.TestCase):
    """All lines of many small looms, beside the document's words told plainly; behind goings back, too."""

    def assert_lines(self, loom):
        sent, used = loom.letters_sent(), loom.letters_used()
        for line in all_lines(loom):
            broken = plainly_broken(loom, line)
            road = sorted(
                name for name, (to, word) in sent.items()
                if name[1] <= line[name[0]] and not (name in used and used[name] <= line[to])
            )
            self.assertEqual((broken_by(loom, line), on_road(loom, line)), (broken, road))
            self.assertIs(is_sound(loom, line), not broken)

    def test_many_weavings(self):
        for seed in range(32):
            with self.subTest(seed):
                weaving = Weaving(seed)
                weaving.weave(16)
                self.assert_lines(weaving.loom)
                fallen = weaving.some_hands()
                weaving.loom.go_to([0] * weaving.loom.many, fallen)
                weaving.weave(12)
                self.assert_lines(weaving.loom)
