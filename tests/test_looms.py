"""Looms [10] to [12], and the interface's row on backline/looms.py but for the going back."""

import random
import unittest

from backline.errors import NoHand, NoLetter
from backline.habits import Bundle, Each, Never
from backline.looms import Loom
from tests.weaving import (
    PlainLoom, assert_same, counting, do_row, done_again, habit_of, may_use, mixing, random_row, refused, script, told,
)

# Hand 0's deeds write to hand 1 and to itself, hand 1's to hand 0.
LETTERS = {
    (0, 1): [(1, 10), (1, 11), (0, 12)],
    (0, 2): [(1, 20)],
    (1, 1): [(0, 30)],
}


def two_hands(ordered, habits=None):
    return Loom(counting(LETTERS), [0, 0], habits or [Never(), Never()], ordered)


class MakingTest(unittest.TestCase):
    def test_looms_of_two_to_five_hands_at_first(self):
        for many in range(2, 6):
            for ordered in (True, False):
                starts = [10 ** 40 - 1, 1 - 10 ** 40, 0, 7, 8][:many]
                loom = Loom(counting(), starts, [Never()] * many, ordered)
                self.assertEqual((loom.many, loom.ordered), (many, ordered))
                self.assertEqual(told(loom), {
                    "many": many, "ordered": ordered, "places": [0] * many, "states": starts, "road": [],
                    "sent": {}, "used": {}, "rows": [], "words": [[]] * many, "points": [[0]] * many,
                })

    def test_lists_that_were_handed_in_are_not_the_looms(self):
        starts, habits = [1, 2], [Each(), Never()]
        loom = Loom(counting(), starts, habits, False)
        starts[0] = 50
        starts.append(3)
        habits.reverse()
        habits.clear()
        loom.own(0)
        loom.own(1)
        self.assertEqual((loom.states(), loom.many), ([2, 3], 2))
        self.assertEqual((loom.points(0), loom.points(1)), ([0, 1], [0]))

    def test_making_changes_nothing_that_is_handed_in(self):
        starts, habits = [1, 2], [Each(), Never()]
        kept = list(habits)
        loom = Loom(counting(LETTERS), starts, habits, True)
        loom.own(0)
        loom.write(1)
        self.assertEqual((starts, habits), ([1, 2], kept))

    def test_each_hand_has_its_own_habit(self):
        loom = Loom(counting(), [0] * 4, [Never(), Each(), Bundle(2), Bundle(3)], False)
        for hand in (0, 1, 2, 3) * 3:
            loom.own(hand)
        self.assertEqual([loom.points(hand) for hand in range(4)], [[0], [0, 1, 2, 3], [0, 1, 2], [0, 1, 2, 3]])


class DeedsTest(unittest.TestCase):
    def test_the_program_is_asked_hand_state_and_word(self):
        loom = Loom(script({
            (0, 5, None): (-6, [(1, 40), (0, -41)], [1, 2]),
            (1, 9, 40): (10 ** 40 - 1, [], []),
            (0, -6, -41): (0, [(1, 3)], [4]),
            (1, 10 ** 40 - 1, 3): (2, [], [5]),
        }), [5, 9], [Never(), Never()], True)
        self.assertIsNone(loom.own(0))
        self.assertIsNone(loom.use(1, (0, 1, 0)))
        self.assertIsNone(loom.use(0, (0, 1, 1)))
        self.assertIsNone(loom.use(1, (0, 2, 0)))
        self.assertEqual((loom.places(), loom.states()), ([2, 2], [0, 2]))
        self.assertEqual((loom.words_of(0), loom.words_of(1)), ([[1, 2], [4]], [[], [5]]))

    def test_all_that_is_told_behind_each_deed(self):
        loom = two_hands(True, [Each(), Never()])
        loom.own(0)
        self.assertEqual((loom.places(), loom.states()), ([1, 0], [1, 0]))
        self.assertEqual(loom.road(), [(0, 1, 0), (0, 1, 1), (0, 1, 2)])
        self.assertEqual(loom.letters_sent(), {(0, 1, 0): (1, 10), (0, 1, 1): (1, 11), (0, 1, 2): (0, 12)})
        self.assertEqual((loom.letters_used(), loom.rows()), ({}, [("own", 0)]))
        loom.use(1, (0, 1, 0))
        self.assertEqual((loom.places(), loom.states()), ([1, 1], [1, 1]))
        self.assertEqual(loom.road(), [(0, 1, 1), (0, 1, 2), (1, 1, 0)])
        self.assertEqual(loom.letters_used(), {(0, 1, 0): 1})
        loom.write(1)
        self.assertEqual((loom.places(), loom.points(0), loom.points(1)), ([1, 1], [0, 1], [0, 1]))
        loom.use(0, (0, 1, 2))
        self.assertEqual(loom.letters_used(), {(0, 1, 0): 1, (0, 1, 2): 2})
        loom.use(0, (1, 1, 0))
        loom.own(1)
        loom.use(1, (0, 1, 1))
        self.assertEqual(loom.road(), [(0, 2, 0)])
        self.assertEqual(loom.letters_used(), {(0, 1, 0): 1, (0, 1, 2): 2, (1, 1, 0): 3, (0, 1, 1): 3})
        self.assertEqual(loom.rows(), [
            ("own", 0), ("use", 1, (0, 1, 0)), ("write", 1), ("use", 0, (0, 1, 2)),
            ("use", 0, (1, 1, 0)), ("own", 1), ("use", 1, (0, 1, 1)),
        ])
        self.assertEqual((loom.places(), loom.points(0), loom.points(1)), ([3, 3], [0, 1, 2, 3], [0, 1]))

    def test_a_letter_used_stays_among_those_sent(self):
        loom = two_hands(True)
        loom.own(0)
        sent = loom.letters_sent()
        loom.use(1, (0, 1, 0))
        self.assertEqual(loom.letters_sent(), {**sent, (1, 1, 0): (0, 30)})

    def test_names_bear_the_number_of_the_deed_whatever_it_was(self):
        loom = two_hands(False)
        loom.write(0)
        loom.own(0)
        loom.write(0)
        loom.use(0, (0, 1, 2))
        self.assertEqual(loom.road(), [(0, 1, 0), (0, 1, 1), (0, 2, 0)])

    def test_the_road_is_sorted_as_tuples_are(self):
        loom = Loom(counting({(2, 1): [(0, 1)], (0, 1): [(1, 1)], (1, 10): [(0, 5)], (1, 2): [(0, 4)]}),
                    [0, 0, 0], [Never()] * 3, False)
        loom.own(2)
        for turn in range(10):
            loom.own(1)
        loom.own(0)
        self.assertEqual(loom.road(), [(0, 1, 0), (1, 2, 0), (1, 10, 0), (2, 1, 0)])

    def test_each_writing_that_is_done_is_a_row(self):
        loom = two_hands(True)
        self.assertIsNone(loom.write(0))
        loom.own(1)
        loom.write(1)
        loom.write(1)
        self.assertEqual(loom.rows(), [("write", 0), ("own", 1), ("write", 1), ("write", 1)])
        self.assertEqual((loom.places(), loom.points(0), loom.points(1)), ([0, 1], [0], [0, 1]))

    def test_letters_to_oneself(self):
        loom = two_hands(True)
        loom.own(0)
        loom.use(0, (0, 1, 2))
        self.assertEqual((loom.places(), loom.letters_used()), ([2, 0], {(0, 1, 2): 2}))
        refused(self, NoLetter, loom.use, 0, (0, 1, 2))

    def test_without_order_any_letter_on_the_road_may_be_used(self):
        loom = two_hands(False)
        loom.own(0)
        loom.own(0)
        for name in ((0, 2, 0), (0, 1, 1), (0, 1, 0)):
            loom.use(1, name)
        self.assertEqual(loom.letters_used(), {(0, 2, 0): 1, (0, 1, 1): 2, (0, 1, 0): 3})

    def test_order_holds_way_by_way(self):
        does = counting({(0, 1): [(1, 1), (2, 2)], (0, 2): [(2, 3)], (1, 1): [(2, 4)]})
        loom = Loom(does, [0, 0, 0], [Never()] * 3, True)
        loom.own(0)
        loom.own(0)
        loom.own(1)
        refused(self, NoLetter, loom.use, 2, (0, 2, 0))
        loom.use(2, (1, 1, 0))
        loom.use(2, (0, 1, 1))
        loom.use(2, (0, 2, 0))
        loom.use(1, (0, 1, 0))
        self.assertEqual(loom.road(), [])

    def test_order_is_by_number_not_by_figures(self):
        loom = Loom(counting({(0, 9): [(1, 1)], (0, 10): [(1, 2)]}), [0, 0], [Never()] * 2, True)
        for turn in range(10):
            loom.own(0)
        refused(self, NoLetter, loom.use, 1, (0, 10, 0))
        loom.use(1, (0, 9, 0))
        loom.use(1, (0, 10, 0))


class RefusalsTest(unittest.TestCase):
    def woven(self, ordered):
        loom = two_hands(ordered, [Bundle(3), Each()])
        loom.own(0)
        loom.use(1, (0, 1, 0))
        loom.own(0)
        loom.write(1)
        return loom

    def assert_no_letter(self, loom, hand, name):
        before = told(loom)
        refused(self, NoLetter, loom.use, hand, name)
        self.assertEqual(told(loom), before)

    def test_a_letter_that_was_never_sent(self):
        for ordered in (True, False):
            loom = self.woven(ordered)
            for name in ((0, 1, 3), (0, 3, 0), (0, 0, 0), (1, 2, 0), (2, 1, 0), (-1, 1, 0), (0, 1, -1)):
                for hand in (0, 1):
                    self.assert_no_letter(loom, hand, name)

    def test_a_letter_that_is_used_already(self):
        for ordered in (True, False):
            self.assert_no_letter(self.woven(ordered), 1, (0, 1, 0))

    def test_a_letter_to_another_hand(self):
        for ordered in (True, False):
            loom = self.woven(ordered)
            self.assert_no_letter(loom, 0, (0, 1, 1))
            self.assert_no_letter(loom, 1, (0, 1, 2))
            self.assert_no_letter(loom, 1, (1, 1, 0))

    def test_not_the_first_one_on_its_way(self):
        loom = self.woven(True)
        self.assert_no_letter(loom, 1, (0, 2, 0))
        loom.use(1, (0, 1, 1))
        loom.use(1, (0, 2, 0))

    def test_what_is_no_name_is_no_letter(self):
        for ordered in (True, False):
            loom = self.woven(ordered)
            for name in (None, (), (0, 1), (0, 1, 1, 0), [0, 1, 1], "0.1.1", 7, (False, 1, 1), (0, True, True),
                         (0, [1], 1), (0, 1.0, 1)):
                self.assert_no_letter(loom, 1, name)

    def test_a_hand_that_the_loom_has_not(self):
        for many in range(2, 6):
            loom = Loom(counting(), [0] * many, [Each()] * many, True)
            loom.own(0)
            before = told(loom)
            for hand in (-1, -many, many, many + 1, 10 ** 40, True, False, None, "0"):
                refused(self, NoHand, loom.own, hand)
                refused(self, NoHand, loom.write, hand)
                refused(self, NoHand, loom.use, hand, (0, 1, 0))
                refused(self, NoHand, loom.words_of, hand)
                refused(self, NoHand, loom.points, hand)
                refused(self, NoHand, loom.throw_ahead, hand, 0)
            self.assertEqual(told(loom), before)

    def test_no_hand_goes_ahead_of_no_letter(self):
        loom = self.woven(True)
        for name in ((0, 1, 1), (9, 9, 9), None):
            for hand in (-1, 2):
                refused(self, NoHand, loom.use, hand, name)

    def test_what_is_refused_leaves_what_is_piled_up(self):
        loom = two_hands(True, [Bundle(2), Never()])
        loom.own(0)
        refused(self, NoLetter, loom.use, 0, (0, 9, 9))
        self.assertEqual(loom.points(0), [0])
        loom.own(0)
        self.assertEqual(loom.points(0), [0, 1, 2])


class OwnListsTest(unittest.TestCase):
    def test_what_the_program_told_may_be_changed_afterwards(self):
        letters, words = [(1, 5)], [6]
        loom = Loom(lambda hand, state, word: (state + 1, letters, words), [0, 0], [Never(), Never()], True)
        loom.own(0)
        letters.append((0, 7))
        words.append(8)
        self.assertEqual((loom.letters_sent(), loom.words_of(0)), ({(0, 1, 0): (1, 5)}, [[6]]))
        loom.own(0)
        letters.clear()
        words.clear()
        self.assertEqual(loom.letters_sent(), {(0, 1, 0): (1, 5), (0, 2, 0): (1, 5), (0, 2, 1): (0, 7)})
        self.assertEqual(loom.words_of(0), [[6], [6, 8]])
        loom.go_to([2, 0], [])
        self.assertEqual(loom.words_of(0), [[6], [6, 8]])

    def test_what_the_program_told_is_not_changed(self):
        letters, words = [(1, 5)], [6]
        loom = Loom(lambda hand, state, word: (state, letters, words), [0, 0], [Never(), Never()], True)
        loom.own(0)
        loom.use(1, (0, 1, 0))
        loom.go_to([0, 0], [0])
        self.assertEqual((letters, words), ([(1, 5)], [6]))

    def test_what_is_told_may_be_changed_afterwards(self):
        loom = Loom(counting(LETTERS, {(0, 1): [3, 4]}), [0, 0], [Each(), Each()], False)
        loom.own(0)
        loom.use(1, (0, 1, 1))
        before = told(loom)
        for changed in (loom.places(), loom.states(), loom.road(), loom.rows(), loom.words_of(0), loom.points(0)):
            changed.append(99)
            changed.reverse()
        loom.words_of(0)[0].append(5)
        loom.words_of(0).clear()
        loom.letters_sent().clear()
        loom.letters_sent()[(5, 5, 5)] = (0, 0)
        loom.letters_used()[(0, 1, 1)] = 9
        loom.letters_used().clear()
        self.assertEqual(told(loom), before)
        loom.use(1, (0, 1, 0))
        self.assertEqual(loom.places(), [1, 2])


class ThrowTest(unittest.TestCase):
    def woven(self, habit):
        loom = Loom(counting(LETTERS), [0, 0], [habit, Never()], True)
        for row in (("own", 0), ("write", 0), ("own", 0), ("write", 0), ("own", 0), ("own", 1), ("write", 1)):
            do_row(loom, row)
        return loom

    def test_the_hands_thread_throws_away_and_all_else_stays(self):
        for habit, points in ((Never(), [2]), (Each(), [2, 3]), (Bundle(2), [2])):
            loom = self.woven(habit)
            before = told(loom)
            self.assertIsNone(loom.throw_ahead(0, 2))
            self.assertEqual(told(loom), {**before, "points": [points, [0, 1]]})

    def test_the_place_counts(self):
        for place, points in ((0, [0, 1, 2]), (1, [1, 2]), (2, [2]), (3, [2])):
            loom = self.woven(Never())
            loom.throw_ahead(0, place)
            self.assertEqual(loom.points(0), points)


class WeavingsTest(unittest.TestCase):
    """Many weavings, each step beside the document's words told plainly."""

    def assert_refuses_all_others(self, loom, plain):
        for hand in range(loom.many):
            usable = plain.usable(hand)
            self.assertEqual(sorted(usable), sorted(may_use(loom, hand)))
            for name, to, word in plain.sent:
                if name not in usable:
                    refused(self, NoLetter, loom.use, hand, name)

    def test_many_weavings(self):
        for seed in range(60):
            chance = random.Random(seed)
            many, ordered = 2 + seed % 4, seed % 2 == 0
            does, starts = mixing(many, seed), [chance.randrange(-50, 50) for hand in range(many)]
            sizes = [chance.choice([0, 1, 2, 5]) for hand in range(many)]
            habits = [habit_of(size) for size in sizes]
            loom, plain = Loom(does, starts, habits, ordered), PlainLoom(does, starts, sizes, ordered)
            for turn in range(40):
                row = random_row(loom, chance)
                do_row(loom, row)
                plain.do(row)
                assert_same(self, loom, plain)
            self.assert_refuses_all_others(loom, plain)
            assert_same(self, loom, plain)
            self.assertEqual(told(done_again(does, starts, habits, ordered, loom.rows())), told(loom))
