"""The going back of a loom, go_to(line, fallen) [19], [20]."""

import random
import unittest

from backline.errors import NoLetter, NoPoint
from backline.habits import Bundle, Each, Never
from backline.looms import Loom
from tests.weaving import (
    PlainLoom, assert_same, but_points, counting, do_row, done_again, habit_of, mixing, random_row, refused, script,
    sound_lines, told,
)

LETTERS = {
    (0, 1): [(1, 10), (1, 11)],
    (0, 2): [(1, 20)],
    (1, 1): [(2, 30)],
    (1, 2): [(0, 40)],
}
WORDS = {(0, 1): [1], (0, 2): [2, 3], (1, 2): [4], (1, 3): [5], (2, 1): [6]}
ROWS = [
    ("own", 0), ("write", 0), ("own", 0), ("use", 1, (0, 1, 0)), ("write", 1), ("use", 1, (0, 1, 1)),
    ("use", 1, (0, 2, 0)), ("use", 2, (1, 1, 0)),
]


def woven(habits, ordered=True, rows=ROWS):
    return done_again(counting(LETTERS, WORDS), [0, 0, 0], habits, ordered, rows)


class WhatIsUndoneTest(unittest.TestCase):
    def test_all_that_is_told_behind_a_going_back(self):
        for ordered in (True, False):
            loom = woven([Never(), Each(), Bundle(3)], ordered)
            self.assertIsNone(loom.go_to([1, 2, 1], [0]))
            self.assertEqual(told(loom), {
                "many": 3, "ordered": ordered, "places": [1, 2, 1], "states": [1, 2, 1], "road": [(1, 2, 0)],
                "sent": {(0, 1, 0): (1, 10), (0, 1, 1): (1, 11), (1, 1, 0): (2, 30), (1, 2, 0): (0, 40)},
                "used": {(0, 1, 0): 1, (0, 1, 1): 2, (1, 1, 0): 1},
                "rows": [ROWS[0], ROWS[1], ROWS[3], ROWS[4], ROWS[5], ROWS[7]],
                "words": [[[1]], [[], [4]], [[6]]], "points": [[0, 1], [0, 1, 2], [0]],
            })

    def test_back_to_the_very_first_places(self):
        for habit in (Never(), Each(), Bundle(2)):
            loom = woven([habit] * 3)
            loom.write(2)
            loom.go_to([0, 0, 0], [0, 1, 2])
            self.assertEqual(told(loom), told(woven([habit] * 3, rows=[])))

    def test_letters_are_on_the_road_again(self):
        loom = woven([Each(), Never(), Never()])
        loom.go_to([2, 1, 1], [1])
        self.assertEqual(loom.road(), [(0, 1, 1), (0, 2, 0)])
        self.assertEqual(loom.letters_used(), {(0, 1, 0): 1, (1, 1, 0): 1})
        self.assertNotIn((1, 2, 0), loom.letters_sent())

    def test_undone_letters_are_nowhere(self):
        loom = woven([Each(), Never(), Never()])
        loom.go_to([2, 0, 0], [1, 2])
        self.assertEqual(loom.road(), [(0, 1, 0), (0, 1, 1), (0, 2, 0)])
        self.assertEqual(sorted(loom.letters_sent()), loom.road())
        self.assertEqual(loom.letters_used(), {})
        refused(self, NoLetter, loom.use, 2, (1, 1, 0))

    def test_a_letter_to_oneself_is_on_the_road_again(self):
        loom = Loom(counting({(0, 1): [(0, 5)]}), [0, 0], [Never(), Never()], True)
        for row in (("own", 0), ("write", 0), ("use", 0, (0, 1, 0))):
            do_row(loom, row)
        loom.go_to([1, 0], [0])
        self.assertEqual((loom.places(), loom.road(), loom.letters_used()), ([1, 0], [(0, 1, 0)], {}))
        loom.use(0, (0, 1, 0))
        self.assertEqual((loom.places(), loom.road()), ([2, 0], []))

    def test_rows_of_writings_go_by_the_place_where_the_hand_stood(self):
        rows = [
            ("write", 0), ("own", 0), ("write", 0), ("own", 1), ("write", 0), ("own", 0), ("write", 1), ("write", 0),
        ]
        loom = woven([Never()] * 3, rows=rows)
        loom.go_to([1, 1, 0], [0])
        self.assertEqual(loom.rows(), rows[:5] + rows[6:7])
        loom.go_to([0, 1, 0], [0])
        self.assertEqual(loom.rows(), [("write", 0), ("own", 1), ("write", 1)])


class OrderTest(unittest.TestCase):
    """Hand 1 used letters of hand 0, wrote behind the first one, and falls."""

    def fallen(self, ordered):
        loom = woven([Each(), Never(), Never()], ordered)
        loom.go_to([2, 1, 1], [1])
        return loom

    def test_on_a_way_that_keeps_its_order_letters_are_in_the_order_in_which_they_were_sent(self):
        loom = self.fallen(True)
        before = told(loom)
        refused(self, NoLetter, loom.use, 1, (0, 2, 0))
        refused(self, NoLetter, loom.use, 1, (0, 1, 0))
        self.assertEqual(told(loom), before)
        loom.use(1, (0, 1, 1))
        loom.use(1, (0, 2, 0))
        self.assertEqual(loom.letters_used(), {(0, 1, 0): 1, (0, 1, 1): 2, (0, 2, 0): 3, (1, 1, 0): 1})

    def test_letters_on_the_road_again_stand_ahead_of_those_that_never_left_it(self):
        does = counting({(0, place): [(1, place)] for place in range(1, 12)})
        loom = Loom(does, [0, 0], [Each(), Never()], True)
        for turn in range(11):
            loom.own(0)
        for place in range(1, 10):
            loom.use(1, (0, place, 0))
        loom.go_to([11, 0], [1])
        for place in range(1, 12):
            for later in range(place + 1, 12):
                refused(self, NoLetter, loom.use, 1, (0, later, 0))
            loom.use(1, (0, place, 0))

    def test_without_order_any_of_them_may_be_used(self):
        for names in (((0, 2, 0), (0, 1, 1)), ((0, 1, 1), (0, 2, 0))):
            loom = self.fallen(False)
            for name in names:
                loom.use(1, name)
            self.assertEqual((loom.places(), loom.letters_used()[names[0]]), ([2, 3, 1], 2))


class WhatIsLostTest(unittest.TestCase):
    def two_hands(self, habits, rows):
        return done_again(counting(), [0, 0], habits, True, rows)

    def test_of_one_that_fell_what_was_not_written_down_is_lost(self):
        loom = self.two_hands([Bundle(3), Never()], [("own", 0)] * 5)
        loom.go_to([3, 0], [0])
        self.assertEqual((loom.places(), loom.points(0)), ([3, 0], [0, 1, 2, 3]))
        loom.own(0)
        loom.own(0)
        self.assertEqual(loom.points(0), [0, 1, 2, 3])
        loom.own(0)
        self.assertEqual(loom.points(0), [0, 1, 2, 3, 4, 5, 6])

    def test_of_one_that_goes_back_what_was_not_written_down_is_lost(self):
        loom = self.two_hands([Bundle(2), Never()], [("own", 0)] * 3)
        loom.go_to([1, 0], [1])
        self.assertEqual((loom.places(), loom.points(0)), ([1, 0], [0, 1]))
        loom.own(0)
        self.assertEqual(loom.points(0), [0, 1])
        loom.own(0)
        self.assertEqual(loom.points(0), [0, 1, 2, 3])

    def test_of_one_that_neither_fell_nor_goes_back_all_stays(self):
        loom = self.two_hands([Bundle(3), Never()], [("own", 0), ("own", 0), ("own", 1)])
        loom.go_to([2, 0], [1])
        self.assertEqual((loom.places(), loom.points(0)), ([2, 0], [0]))
        loom.own(0)
        self.assertEqual(loom.points(0), [0, 1, 2, 3])

    def test_one_that_stands_stays_where_there_is_no_point(self):
        loom = self.two_hands([Never(), Never()], [("own", 0), ("write", 0), ("own", 0), ("own", 1)])
        loom.go_to([2, 0], [1])
        self.assertEqual((loom.places(), loom.states(), loom.points(0)), ([2, 0], [2, 0], [0, 1]))

    def test_one_that_fell_where_it_stands_at_a_point(self):
        for habit, rows in ((Each(), []), (Bundle(2), []), (Never(), [("write", 0)]), (Bundle(5), [("write", 0)])):
            loom = self.two_hands([habit, Never()], [("own", 0), ("own", 0)] + rows)
            before = told(loom)
            loom.go_to([2, 0], [0])
            self.assertEqual(told(loom), before)

    def test_where_none_fell_and_all_stand_nothing_changes(self):
        loom = woven([Never(), Each(), Bundle(2)])
        before = told(loom)
        loom.go_to([2, 3, 1], [])
        self.assertEqual(told(loom), before)
        loom.own(2)
        self.assertEqual(loom.points(2), [0, 1, 2])

    def test_points_behind_a_throwing_away(self):
        loom = self.two_hands([Each(), Never()], [("own", 0), ("own", 0), ("write", 0), ("own", 0), ("own", 0)])
        loom.throw_ahead(0, 3)
        loom.go_to([3, 0], [1])
        self.assertEqual(loom.points(0), [2, 3])
        loom.own(0)
        self.assertEqual(loom.points(0), [2, 3, 4])


class GoingOnTest(unittest.TestCase):
    DEEDS = {
        (0, 0, None): (1, [(1, 5), (1, 50)], [7]),
        (1, 0, None): (7, [(0, 9)], []),
        (0, 0, 9): (2, [(1, 6)], [8]),
        (1, 7, 6): (11, [(0, 12)], [13]),
        (0, 2, 12): (14, [], []),
    }

    def loom(self, ordered):
        loom = Loom(script(self.DEEDS), [0, 0], [Never(), Never()], ordered)
        loom.own(0)
        loom.own(1)
        loom.go_to([0, 1], [0])
        return loom

    def test_names_of_undone_letters_are_free_again(self):
        for ordered in (True, False):
            loom = self.loom(ordered)
            self.assertEqual((loom.letters_sent(), loom.road()), ({(1, 1, 0): (0, 9)}, [(1, 1, 0)]))
            loom.use(0, (1, 1, 0))
            self.assertEqual(loom.letters_sent(), {(1, 1, 0): (0, 9), (0, 1, 0): (1, 6)})
            self.assertEqual((loom.road(), loom.words_of(0)), ([(0, 1, 0)], [[8]]))
            refused(self, NoLetter, loom.use, 1, (0, 1, 1))

    def test_deeds_go_on_from_there(self):
        for ordered in (True, False):
            loom = self.loom(ordered)
            loom.use(0, (1, 1, 0))
            loom.use(1, (0, 1, 0))
            loom.use(0, (1, 2, 0))
            self.assertEqual((loom.places(), loom.states(), loom.road()), ([2, 2], [14, 11], []))
            self.assertEqual(loom.letters_used(), {(1, 1, 0): 1, (0, 1, 0): 2, (1, 2, 0): 2})
            self.assertEqual(loom.rows(), [
                ("own", 1), ("use", 0, (1, 1, 0)), ("use", 1, (0, 1, 0)), ("use", 0, (1, 2, 0)),
            ])

    def test_a_name_sent_anew_may_go_to_another_hand(self):
        deeds = {
            (0, 0, None): (1, [(1, 5)], []), (1, 0, None): (1, [(0, 9)], []), (0, 0, 9): (2, [(0, 6)], []),
            (0, 2, 6): (3, [], []),
        }
        for ordered in (True, False):
            loom = Loom(script(deeds), [0, 0], [Never(), Each()], ordered)
            loom.own(0)
            loom.own(1)
            loom.go_to([0, 1], [0])
            loom.use(0, (1, 1, 0))
            refused(self, NoLetter, loom.use, 1, (0, 1, 0))
            loom.use(0, (0, 1, 0))
            self.assertEqual((loom.places(), loom.states(), loom.road()), ([2, 1], [3, 1], []))


class HandedInTest(unittest.TestCase):
    def test_the_lists_that_are_handed_in_stay_the_askers(self):
        loom = woven([Never(), Each(), Bundle(3)])
        line, fallen = [1, 2, 1], [0]
        loom.go_to(line, fallen)
        self.assertEqual((line, fallen), ([1, 2, 1], [0]))
        before = told(loom)
        line[0] = 0
        line.clear()
        fallen.append(1)
        self.assertEqual(told(loom), before)

    def test_what_was_told_ahead_of_it_stays_as_it_was(self):
        loom = woven([Never(), Each(), Bundle(3)])
        before = told(loom)
        again = told(woven([Never(), Each(), Bundle(3)]))
        loom.go_to([0, 0, 0], [0, 1, 2])
        self.assertEqual(before, again)

    def test_a_line_to_which_a_hand_can_not_go_changes_nothing(self):
        # The last hand can't go there: those ahead of it must not have gone either.
        for line, fallen in (([0, 0, 1], [2]), ([0, 0, 2], []), ([0, 0, -1], []), ([3, 0, 0], [])):
            loom = woven([Never(), Each(), Bundle(3)])
            before = told(loom)
            refused(self, NoPoint, loom.go_to, line, fallen)
            self.assertEqual(told(loom), before)
            loom.own(2)
            loom.own(2)
            self.assertEqual(loom.points(2), [0, 1, 2, 3])


class WeavingsTest(unittest.TestCase):
    """Many weavings with falls and throwings away, each step beside the document's words told plainly."""

    def go_back(self, loom, plain, chance):
        fallen = [hand for hand in range(loom.many) if chance.random() < 0.5]
        lines = sound_lines(loom, fallen)
        if not lines:
            return
        line = chance.choice(lines)
        stood, had = loom.places(), told(loom)["points"]
        loom.go_to(line, fallen)
        plain.go_to(line, fallen)
        for hand in range(loom.many):
            lost = hand in fallen or line[hand] < stood[hand]
            left = [place for place in had[hand] if place <= line[hand]] if lost else had[hand]
            self.assertEqual(loom.points(hand), left)

    def throw_away(self, loom, plain, chance):
        hand = chance.randrange(loom.many)
        place = chance.randrange(loom.places()[hand] + 1)
        loom.throw_ahead(hand, place)
        plain.threads[hand].throw_ahead(place)

    def assert_letters_are_whole(self, loom):
        """Point [20]."""
        sent, used = loom.letters_sent(), loom.letters_used()
        self.assertEqual(sorted(list(used) + loom.road()), sorted(sent))
        for name in sent:
            self.assertLessEqual(name[1], loom.places()[name[0]])
        for name, place in used.items():
            self.assertLessEqual(place, loom.places()[sent[name][0]])

    def assert_usable(self, loom, plain):
        for hand in range(loom.many):
            usable = plain.usable(hand)
            for name in loom.letters_sent():
                if name not in usable:
                    refused(self, NoLetter, loom.use, hand, name)

    def weave(self, seed):
        chance = random.Random(seed)
        many, ordered = 2 + seed % 4, seed % 8 < 4
        does, starts = mixing(many, seed), [chance.randrange(-50, 50) for hand in range(many)]
        sizes = [chance.choice([0, 0, 1, 2, 3]) for hand in range(many)]
        habits = [habit_of(size) for size in sizes]
        loom, plain = Loom(does, starts, habits, ordered), PlainLoom(does, starts, sizes, ordered)
        for turn in range(60):
            if turn % 12 == 11:
                self.go_back(loom, plain, chance)
                self.assert_letters_are_whole(loom)
                self.assert_usable(loom, plain)
            elif chance.random() < 0.02:
                self.throw_away(loom, plain, chance)
            else:
                row = random_row(loom, chance)
                self.assertIn(row[2] if row[0] == "use" else None, plain.usable(row[1]) + [None])
                do_row(loom, row)
                plain.do(row)
            assert_same(self, loom, plain)
        again = done_again(does, starts, habits, ordered, loom.rows())
        self.assertEqual(but_points(told(again)), but_points(told(loom)))

    def test_many_weavings(self):
        for seed in range(80):
            with self.subTest(seed):
                self.weave(seed)
