"""The going back behind a fall, and rows done again on a new loom [19] to [21]."""

import unittest

from backline.backs import again, fall
from backline.errors import NoHand, NoLetter, NoRow
from backline.falls import greatest_line, is_shown
from backline.habits import Bundle, Each, Never
from backline.keepers import Keeper
from backline.looms import Loom
from tests.weaving import (
    PlainLoom, Weaving, assert_same, but_points, counting, do_row, done_again, greatest_by_search, random_row, refused,
    script, told,
)

# Hand 1 used three letters of hand 0, with words for the world; hand 2 one of hand 1.
LETTERS = {
    (0, 1): [(1, 10), (1, 11)],
    (0, 2): [(1, 20)],
    (1, 1): [(2, 30)],
    (1, 2): [(0, 40)],
}
WORDS = {(0, 1): [1], (0, 2): [2, 3], (1, 2): [4], (1, 3): [5], (2, 1): [6]}
ROWS = [
    ("own", 0), ("write", 0), ("own", 0), ("use", 1, (0, 1, 0)), ("write", 1), ("use", 1, (0, 1, 1)),
    ("use", 1, (0, 2, 0)), ("use", 2, (1, 1, 0)),
]


def woven(habits, ordered=True, rows=ROWS):
    return done_again(counting(LETTERS, WORDS), [0, 0, 0], habits, ordered, rows)


class FallTest(unittest.TestCase):
    def test_all_that_is_told_behind_a_fall(self):
        for ordered in (True, False):
            loom = woven([Never(), Each(), Bundle(3)], ordered)
            self.assertEqual(fall(loom, [0]), ([1, 2, 1], [(0, 2, 0)]))
            self.assertEqual(told(loom), {
                "many": 3, "ordered": ordered, "places": [1, 2, 1], "states": [1, 2, 1], "road": [(1, 2, 0)],
                "sent": {(0, 1, 0): (1, 10), (0, 1, 1): (1, 11), (1, 1, 0): (2, 30), (1, 2, 0): (0, 40)},
                "used": {(0, 1, 0): 1, (0, 1, 1): 2, (1, 1, 0): 1},
                "rows": [ROWS[0], ROWS[1], ROWS[3], ROWS[4], ROWS[5], ROWS[7]],
                "words": [[[1]], [[], [4]], [[6]]], "points": [[0, 1], [0, 1, 2], [0]],
            })

    def test_letters_that_only_undone_deeds_used_are_on_the_road_again(self):
        for ordered in (True, False):
            loom = woven([Each(), Never(), Never()], ordered)
            self.assertEqual(fall(loom, [1]), ([2, 1, 1], []))
            self.assertEqual((loom.road(), loom.letters_used()), ([(0, 1, 1), (0, 2, 0)], {(0, 1, 0): 1, (1, 1, 0): 1}))

    def test_on_a_way_that_keeps_its_order_they_are_used_as_they_were_sent(self):
        loom = woven([Each(), Never(), Never()])
        fall(loom, [1])
        refused(self, NoLetter, loom.use, 1, (0, 2, 0))
        loom.use(1, (0, 1, 1))
        loom.use(1, (0, 2, 0))
        self.assertEqual(loom.places(), [2, 3, 1])

    def test_on_other_ways_they_are_used_in_any_order(self):
        loom = woven([Each(), Never(), Never()], False)
        fall(loom, [1])
        loom.use(1, (0, 2, 0))
        loom.use(1, (0, 1, 1))
        self.assertEqual(loom.letters_used(), {(0, 1, 0): 1, (1, 1, 0): 1, (0, 2, 0): 2, (0, 1, 1): 3})

    def test_a_fall_of_none_leaves_all_as_it_was(self):
        loom = woven([Never(), Bundle(2), Bundle(3)])
        before = told(loom)
        self.assertEqual(fall(loom, []), ([2, 3, 1], []))
        self.assertEqual(told(loom), before)
        loom.own(2)
        loom.own(2)
        self.assertEqual(loom.points(2), [0, 1, 2, 3])

    def test_a_fall_of_all(self):
        loom = woven([Never(), Never(), Never()])
        self.assertEqual(fall(loom, [2, 0, 1]), ([1, 1, 0], []))
        self.assertEqual((loom.places(), loom.road()), ([1, 1, 0], [(0, 1, 1), (1, 1, 0)]))
        self.assertEqual(loom.rows(), [ROWS[0], ROWS[1], ROWS[3], ROWS[4]])

    def test_of_those_that_fell_or_go_back_what_was_not_written_down_is_lost(self):
        loom = done_again(counting(), [0, 0], [Bundle(3), Bundle(3)], True, [("own", 0)] * 5 + [("own", 1)] * 2)
        self.assertEqual(fall(loom, [0]), ([3, 2], []))
        for hand in (0, 1):
            loom.own(hand)
        self.assertEqual((loom.points(0), loom.points(1)), ([0, 1, 2, 3], [0, 1, 2, 3]))

    def test_a_fall_behind_a_fall(self):
        loom = woven([Never(), Each(), Never()])
        self.assertEqual(fall(loom, [0]), ([1, 2, 1], [(0, 2, 0)]))
        self.assertEqual(fall(loom, [0]), ([1, 2, 1], []))
        self.assertEqual(fall(loom, [2]), ([1, 2, 0], []))
        loom.use(0, (1, 2, 0))
        loom.use(1, (0, 2, 0))
        self.assertEqual(fall(loom, [0, 2]), ([1, 2, 0], [(0, 2, 0)]))
        self.assertEqual(loom.road(), [(1, 1, 0), (1, 2, 0)])

    def test_names_of_undone_letters_are_sent_anew_with_another_word(self):
        deeds = {
            (0, 0, None): (1, [(1, 5)], [7]), (1, 0, 5): (2, [], []), (1, 0, None): (3, [(0, 9)], []),
            (0, 0, 9): (4, [(1, 6)], [8]), (1, 3, 6): (5, [], []),
        }
        for ordered in (True, False):
            loom = Loom(script(deeds), [0, 0], [Never(), Never()], ordered)
            loom.own(0)
            loom.use(1, (0, 1, 0))
            self.assertEqual(fall(loom, [0]), ([0, 0], [(0, 1, 0)]))
            self.assertEqual((loom.letters_sent(), loom.road(), loom.words_of(0)), ({}, [], []))
            loom.own(1)
            loom.use(0, (1, 1, 0))
            self.assertEqual(loom.letters_sent(), {(1, 1, 0): (0, 9), (0, 1, 0): (1, 6)})
            loom.use(1, (0, 1, 0))
            self.assertEqual((loom.states(), loom.words_of(0)), ([4, 5], [[8]]))

    def test_what_was_handed_in_and_told_is_the_askers_own(self):
        loom = woven([Never(), Each(), Never()])
        fallen = [0]
        line, paper = fall(loom, fallen)
        self.assertEqual(fallen, [0])
        before = told(loom)
        line[1] = 0
        paper.append((0, 1, 0))
        fallen.append(2)
        self.assertEqual(told(loom), before)
        self.assertEqual(fall(loom, [0]), ([1, 2, 1], []))


class AgainTest(unittest.TestCase):
    MADE_OF = (counting(LETTERS, WORDS), [0, 0, 0], [Never(), Each(), Bundle(2)])

    def test_a_looms_own_rows_done_again(self):
        for ordered in (True, False):
            loom = again(*self.MADE_OF, ordered, ROWS)
            self.assertIsInstance(loom, Loom)
            self.assertEqual(told(loom), told(woven(self.MADE_OF[2], ordered)))

    def test_no_rows(self):
        loom = again(*self.MADE_OF, False, [])
        self.assertEqual(told(loom), told(Loom(*self.MADE_OF, False)))

    def test_it_goes_on_from_there(self):
        loom = again(*self.MADE_OF, True, ROWS)
        loom.use(0, (1, 2, 0))
        self.assertEqual((loom.places(), loom.rows()), ([3, 3, 1], ROWS + [("use", 0, (1, 2, 0))]))

    def test_rows_behind_a_fall_may_lead_to_other_points(self):
        # Done again, the piles of hand 0 begin elsewhere than behind its fall.
        loom = done_again(counting(), [0, 0], [Bundle(2), Never()], True, [("own", 0)] * 3 + [("own", 1)])
        loom.go_to([1, 0], [0, 1])
        loom.own(0)
        made = again(counting(), [0, 0], [Bundle(2), Never()], True, loom.rows())
        self.assertEqual(but_points(told(made)), but_points(told(loom)))
        self.assertEqual((loom.points(0), made.points(0)), ([0, 1], [0, 1, 2]))

    def test_rows_that_can_not_be_done_are_refused(self):
        for error, rows in (
            (NoHand, [("own", 3)]),
            (NoHand, [("own", -1)]),
            (NoHand, [("write", 3)]),
            (NoHand, ROWS + [("write", -1)]),
            (NoHand, [("own", 0), ("use", 3, (0, 1, 0))]),
            (NoHand, [("use", 5, (9, 9, 9)), ("own", 0)]),
            (NoLetter, [("use", 1, (0, 1, 0)), ("own", 0)]),
            (NoLetter, [("own", 0), ("use", 1, (0, 1, 1))]),
            (NoLetter, [("own", 0), ("use", 2, (0, 1, 0))]),
            (NoLetter, [("own", 0), ("use", 1, (0, 1, 0)), ("use", 1, (0, 1, 0))]),
            (NoLetter, [("own", 0), ("use", 1, (0, 1, 2))]),
            (NoLetter, [("use", 1, (9, 9, 9)), ("own", 3)]),
        ):
            kept = list(rows)
            refused(self, error, again, *self.MADE_OF, True, rows)
            self.assertEqual(rows, kept)
        rows = [("own", 0), ("use", 1, (0, 1, 1))]
        self.assertEqual(again(*self.MADE_OF, False, rows).rows(), rows)

    def test_a_row_of_no_such_kind_is_not_taken_for_another(self):
        for kind in ("fall", "", "writes", None):
            refused(self, NoRow, again, *self.MADE_OF, True, [("own", 0), (kind, 0)])

    def test_what_was_handed_in_is_the_askers_own(self):
        starts, habits, rows = [4, 5, 6], [Never(), Each(), Bundle(2)], list(ROWS)
        does = counting({(0, 5): [(1, 10), (1, 11)], (0, 6): [(1, 20)], (1, 6): [(2, 30)], (1, 7): [(0, 40)]})
        loom = again(does, starts, habits, True, rows)
        self.assertEqual((starts, rows, len(habits)), ([4, 5, 6], ROWS, 3))
        before = told(loom)
        for given in (starts, habits, rows):
            given.clear()
        self.assertEqual(told(loom), before)
        loom.own(2)
        self.assertEqual(loom.states(), [6, 8, 8])


class WeavingsTest(unittest.TestCase):
    """Many weavings with falls and throwings away, each step beside the document's words told plainly."""

    def go_back(self, weaving, plain):
        loom, fallen = weaving.loom, weaving.some_hands()
        stood, had, wanted = loom.places(), told(loom)["points"], greatest_by_search(loom, fallen)
        shadow = again(*weaving.made_of, loom.rows())
        line, paper = fall(loom, fallen)
        self.assertEqual(line, wanted)
        self.assertEqual(loom.places(), line)
        plain.go_to(line, fallen)
        for hand in range(loom.many):
            lost = hand in fallen or line[hand] < stood[hand]
            self.assertEqual(loom.points(hand), [place for place in had[hand] if place <= line[hand] or not lost])
        self.assertEqual(greatest_line(loom, fallen), (line, []))
        self.assertEqual(sorted(set(paper)), sorted(paper))
        self.assertTrue(set(paper) <= set(shadow.letters_used()))

    def weave(self, seed):
        weaving = Weaving(seed)
        loom = weaving.loom
        plain = PlainLoom(weaving.made_of[0], weaving.made_of[1], weaving.sizes, loom.ordered)
        for turn in range(60):
            if turn % 10 == 9:
                self.go_back(weaving, plain)
            elif turn % 25 == 24:
                places = [loom.points(hand)[0] for hand in range(loom.many)]
                Keeper(loom).throw()
                for hand, thread in enumerate(plain.threads):
                    kept = loom.points(hand)[0]
                    self.assertGreaterEqual(kept, places[hand])
                    thread.throw_ahead(kept)
            else:
                row = random_row(loom, weaving.chance)
                do_row(loom, row)
                plain.do(row)
            assert_same(self, loom, plain)
            self.assertEqual(but_points(told(again(*weaving.made_of, loom.rows()))), but_points(told(loom)))

    def test_many_weavings(self):
        for seed in range(64):
            with self.subTest(seed):
                self.weave(seed)

    def test_rows_of_a_loom_that_never_went_back_lead_to_the_same_points(self):
        for seed in range(16):
            weaving = Weaving(seed)
            weaving.weave(40)
            self.assertEqual(told(again(*weaving.made_of, weaving.loom.rows())), told(weaving.loom))

    def test_the_paper_shows_the_line_on_the_loom_as_it_was(self):
        for seed in range(32):
            weaving = Weaving(seed)
            weaving.weave(40)
            fallen = weaving.some_hands()
            before = again(*weaving.made_of, weaving.loom.rows())
            line, paper = fall(weaving.loom, fallen)
            self.assertIs(is_shown(before, fallen, line, paper), True)
