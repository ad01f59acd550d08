"""Allowed points, the greatest line for those that fall, and its paper [15] to [18]."""

import unittest

from backline.backs import fall
from backline.errors import NoPoint
from backline.falls import allowed_points, greatest_line, is_shown
from backline.habits import Bundle, Each, Never
from backline.keepers import Keeper
from backline.lines import is_sound, met_of
from backline.looms import Loom
from tests.weaving import (
    Weaving, counting, done_again, greatest_by_search, plainly_allowed, plainly_broken, refused, sets_of_hands, told,
)

# Each fall of one hand draws the other one back, step by step.
LETTERS = {(0, 1): [(1, 1)], (1, 2): [(0, 2)], (0, 3): [(1, 3)]}
FIRST, BACK, SECOND = (0, 1, 0), (1, 2, 0), (0, 3, 0)
ROWS = [
    ("own", 0), ("use", 1, FIRST), ("write", 1), ("own", 1), ("use", 0, BACK), ("write", 0), ("own", 0),
    ("use", 1, SECOND),
]


def drawn_back(habits):
    return done_again(counting(LETTERS), [0, 0], habits, True, ROWS)


def starred():
    """Hand 0 wrote to hands 1 and 2, which used it and wrote nothing down."""
    loom = Loom(counting({(0, 1): [(1, 1), (2, 2)]}), [0, 0, 0], [Never()] * 3, True)
    loom.own(0)
    loom.use(1, (0, 1, 0))
    loom.use(2, (0, 1, 1))
    return loom


def plainly_shown(loom, fallen, line, paper):
    """Whether a line and a paper of true names are shown, by the words of [17]."""
    allowed = plainly_allowed(loom, fallen)
    now = [points[-1] for points in allowed]
    for name in paper:
        if name not in plainly_broken(loom, now):
            return False
        user, use = loom.letters_sent()[name][0], loom.letters_used()[name]
        ahead = [point for point in allowed[user] if point < use]
        if not ahead:
            return False
        now[user] = ahead[-1]
    return now == line and plainly_broken(loom, now) == []


class AllowedTest(unittest.TestCase):
    def four_hands(self, rows):
        return done_again(counting(), [0] * 4, [Never(), Each(), Bundle(2), Bundle(3)], True, rows)

    def test_points_of_those_that_fell_and_also_where_the_others_stand(self):
        loom = self.four_hands([("own", hand) for hand in range(4) for turn in range(5)])
        points = [[0], [0, 1, 2, 3, 4, 5], [0, 1, 2, 3, 4], [0, 1, 2, 3]]
        stands = [[0, 5], [0, 1, 2, 3, 4, 5], [0, 1, 2, 3, 4, 5], [0, 1, 2, 3, 5]]
        for fallen in sets_of_hands(4):
            self.assertEqual(
                allowed_points(loom, fallen), [points[hand] if hand in fallen else stands[hand] for hand in range(4)],
            )

    def test_where_a_hand_stands_at_a_point_it_is_told_once(self):
        loom = self.four_hands([("own", hand) for hand in range(4)] + [("write", hand) for hand in range(4)])
        for fallen in sets_of_hands(4):
            self.assertEqual(allowed_points(loom, fallen), [[0, 1]] * 4)

    def test_a_loom_of_which_nothing_is_done(self):
        loom = self.four_hands([])
        for fallen in sets_of_hands(4):
            self.assertEqual(allowed_points(loom, fallen), [[0]] * 4)

    def test_hands_told_in_any_order(self):
        loom = self.four_hands([("own", hand) for hand in range(4) for turn in range(5)])
        for fallen in ([3, 0], [0, 3], [3, 0, 3]):
            self.assertEqual(
                allowed_points(loom, fallen), [[0], [0, 1, 2, 3, 4, 5], [0, 1, 2, 3, 4, 5], [0, 1, 2, 3]],
            )

    def test_behind_writings(self):
        rows = [("own", hand) for hand in range(4)] + [("write", hand) for hand in range(4)]
        loom = self.four_hands(rows + [("own", hand) for hand in range(4) for turn in range(2)])
        self.assertEqual(allowed_points(loom, [0, 1, 2, 3]), [[0, 1], [0, 1, 2, 3], [0, 1, 2, 3], [0, 1]])
        self.assertEqual(allowed_points(loom, []), [[0, 1, 3], [0, 1, 2, 3], [0, 1, 2, 3], [0, 1, 3]])

    def test_behind_a_cut_and_a_throwing_away(self):
        rows = [("own", hand) for hand in range(4) for turn in range(2)] + [("write", hand) for hand in range(4)]
        loom = self.four_hands(rows + [("own", hand) for hand in range(4) for turn in range(4)])
        loom.go_to([2, 4, 3, 5], [0])
        self.assertEqual(
            allowed_points(loom, [0, 1, 2, 3]), [[0, 2], [0, 1, 2, 3, 4], [0, 1, 2, 3], [0, 1, 2, 3, 4, 5]],
        )
        for hand in range(4):
            loom.throw_ahead(hand, 3 if hand else 2)
            loom.own(hand)
        self.assertEqual(allowed_points(loom, [0, 1, 2, 3]), [[2], [2, 3, 4, 5], [2, 3], [2, 3, 4, 5]])
        self.assertEqual(allowed_points(loom, []), [[2, 3], [2, 3, 4, 5], [2, 3, 4], [2, 3, 4, 5, 6]])

    def test_many_weavings(self):
        for seed in range(40):
            weaving = Weaving(seed)
            for turn in range(3):
                weaving.weave(15)
                for fallen in sets_of_hands(weaving.loom.many):
                    self.assertEqual(allowed_points(weaving.loom, fallen), plainly_allowed(weaving.loom, fallen))
                fall(weaving.loom, weaving.some_hands())
                Keeper(weaving.loom).throw()


class GreatestTest(unittest.TestCase):
    def test_a_fall_that_draws_all_back_to_the_first_places(self):
        loom = drawn_back([Never(), Never()])
        self.assertEqual(greatest_line(loom, [0]), ([0, 0], [SECOND, BACK, FIRST]))
        self.assertEqual(greatest_line(loom, [1]), ([0, 0], [BACK, FIRST]))
        self.assertEqual(greatest_line(loom, [0, 1])[0], [0, 0])
        self.assertEqual(greatest_line(loom, []), ([3, 3], []))

    def test_habits_that_write_down_more_go_back_less(self):
        loom = drawn_back([Each(), Never()])
        self.assertEqual(greatest_line(loom, [0]), ([3, 3], []))
        self.assertEqual(greatest_line(loom, [1]), ([1, 1], [BACK]))
        self.assertEqual(greatest_line(loom, [0, 1]), ([1, 1], [BACK]))
        loom = drawn_back([Never(), Each()])
        self.assertEqual(greatest_line(loom, [0]), ([2, 2], [SECOND]))
        self.assertEqual(greatest_line(loom, [1]), ([3, 3], []))
        loom = drawn_back([Bundle(3), Bundle(3)])
        self.assertEqual(greatest_line(loom, [0]), ([1, 1], [SECOND, BACK]))
        self.assertEqual(greatest_line(loom, [1]), ([1, 1], [BACK]))
        loom = drawn_back([Bundle(2), Bundle(2)])
        self.assertEqual(greatest_line(loom, [0]), ([2, 2], [SECOND]))
        self.assertEqual(greatest_line(loom, [1]), ([3, 3], []))

    def test_one_that_has_not_fallen_stays_where_there_is_no_point(self):
        loom = starred()
        self.assertEqual(greatest_line(loom, [1]), ([1, 0, 1], []))
        self.assertEqual(greatest_line(loom, [1, 2]), ([1, 0, 0], []))
        line, paper = greatest_line(loom, [0])
        self.assertEqual((line, sorted(paper)), ([0, 0, 0], [(0, 1, 0), (0, 1, 1)]))
        self.assertEqual(greatest_line(loom, [0, 1]), ([0, 0, 0], [(0, 1, 1)]))

    def test_hands_told_in_any_order_and_twice(self):
        loom = drawn_back([Bundle(2), Bundle(2)])
        self.assertEqual(greatest_line(loom, [1, 0]), greatest_line(loom, [0, 1]))
        self.assertEqual(greatest_line(loom, [1, 0, 1]), greatest_line(loom, [0, 1]))

    def test_a_loom_of_which_nothing_is_done(self):
        loom = Loom(counting(), [0, 0, 0], [Never(), Each(), Bundle(4)], True)
        for fallen in sets_of_hands(3):
            self.assertEqual(greatest_line(loom, fallen), ([0, 0, 0], []))

    def test_letters_to_oneself_draw_none_back(self):
        loom = Loom(counting({(0, 1): [(0, 1)], (0, 2): [(0, 2)]}), [0, 0], [Never(), Never()], True)
        loom.own(0)
        loom.use(0, (0, 1, 0))
        loom.write(0)
        loom.use(0, (0, 2, 0))
        self.assertEqual(greatest_line(loom, [0]), ([2, 0], []))

    def test_a_long_way_back(self):
        turns = 300
        letters = {(0, 2 * turn + 1): [(1, turn)] for turn in range(turns + 1)}
        letters.update({(1, 2 * turn + 2): [(0, turn)] for turn in range(turns + 1)})
        loom = Loom(counting(letters), [0, 0], [Never(), Never()], True)
        paper = []
        for turn in range(turns + 1):
            loom.own(0)
            loom.use(1, (0, 2 * turn + 1, 0))
            paper.append((0, 2 * turn + 1, 0))
            if turn < turns:
                loom.write(1)
                loom.own(1)
                loom.use(0, (1, 2 * turn + 2, 0))
                loom.write(0)
                paper.append((1, 2 * turn + 2, 0))
        self.assertEqual(greatest_line(loom, [0]), ([0, 0], paper[::-1]))
        self.assertEqual(greatest_line(loom, []), (loom.places(), []))


class SearchTest(unittest.TestCase):
    """The greatest line beside a search over all allowed and sound lines, for every set of hands that fall."""

    def assert_greatest(self, loom):
        for fallen in sets_of_hands(loom.many):
            line, paper = greatest_line(loom, fallen)
            self.assertEqual(line, greatest_by_search(loom, fallen))
            self.assertIs(is_sound(loom, line), True)
            self.assertIs(is_shown(loom, fallen, line, paper), True)
            self.assertTrue(plainly_shown(loom, fallen, line, paper))

    def test_small_looms(self):
        for seed in range(60):
            with self.subTest(seed):
                weaving = Weaving(seed)
                weaving.weave(28 - 3 * weaving.loom.many)
                self.assert_greatest(weaving.loom)

    def test_behind_earlier_falls_and_throwing_away(self):
        for seed in range(60):
            with self.subTest(seed):
                weaving = Weaving(seed)
                for turn in range(5):
                    weaving.weave(20 - 3 * weaving.loom.many)
                    self.assert_greatest(weaving.loom)
                    fall(weaving.loom, weaving.some_hands())
                    self.assert_greatest(weaving.loom)
                    if weaving.chance.random() < 0.5:
                        Keeper(weaving.loom).throw()
                        self.assert_greatest(weaving.loom)


class PaperTest(unittest.TestCase):
    def assert_none_shown(self, loom, fallen, cases):
        before = told(loom)
        for line, paper in cases:
            with self.subTest(line=line, paper=paper):
                self.assertIs(is_shown(loom, fallen, line, paper), False)
        self.assertEqual(told(loom), before)

    def test_the_way_is_shown(self):
        loom = drawn_back([Never(), Never()])
        self.assertIs(is_shown(loom, [0], [0, 0], [SECOND, BACK, FIRST]), True)
        self.assertIs(is_shown(loom, [1], [0, 0], [BACK, FIRST]), True)
        self.assertIs(is_shown(loom, [1, 0], [0, 0], [BACK, FIRST]), True)
        self.assertIs(is_shown(loom, [], [3, 3], []), True)

    def test_each_of_several_ways_is_shown(self):
        loom = starred()
        one, other = (0, 1, 0), (0, 1, 1)
        self.assertIs(is_shown(loom, [0], [0, 0, 0], [one, other]), True)
        self.assertIs(is_shown(loom, [0], [0, 0, 0], [other, one]), True)

    def test_a_letter_more_or_less_on_the_way_may_be_right_too(self):
        # Hand 1 used both letters of hand 0's deeds; whoever begins with the earlier use needs no more.
        loom = Loom(counting({(0, 1): [(1, 1)], (0, 2): [(1, 2)]}), [0, 0], [Never(), Each()], True)
        for row in range(2):
            loom.own(0)
            loom.use(1, (0, row + 1, 0))
        self.assertIs(is_shown(loom, [0], [0, 0], [(0, 1, 0)]), True)
        self.assertIs(is_shown(loom, [0], [0, 0], [(0, 2, 0), (0, 1, 0)]), True)
        self.assert_none_shown(loom, [0], [
            ([0, 0], [(0, 1, 0), (0, 2, 0)]), ([0, 1], [(0, 2, 0)]), ([0, 0], [(0, 2, 0)]),
        ])

    def test_papers_cut_short(self):
        loom = drawn_back([Never(), Never()])
        self.assert_none_shown(loom, [0], [
            ([0, 0], [SECOND, BACK]), ([0, 1], [SECOND, BACK]), ([0, 0], [SECOND]), ([2, 1], [SECOND]),
            ([0, 0], []), ([2, 3], []), ([0, 0], [BACK, FIRST]), ([0, 0], [SECOND, FIRST]),
        ])

    def test_letters_that_do_not_break_then(self):
        loom = drawn_back([Never(), Never()])
        way = [SECOND, BACK, FIRST]
        self.assert_none_shown(loom, [0], [
            ([0, 0], [BACK, SECOND, FIRST]), ([0, 0], [FIRST, BACK, SECOND]), ([0, 0], way + [FIRST]),
            ([0, 0], [SECOND, SECOND, BACK, FIRST]), ([0, 0], way + [SECOND]), ([0, 0], [BACK] + way),
        ])
        self.assert_none_shown(loom, [], [([0, 0], way), ([3, 3], [FIRST]), ([3, 3], [SECOND])])

    def test_letters_that_are_none_or_are_not_used(self):
        loom = done_again(counting({**LETTERS, (0, 4): [(1, 4)]}), [0, 0], [Never()] * 2, True, ROWS + [("own", 0)])
        way = [SECOND, BACK, FIRST]
        self.assertIs(is_shown(loom, [0], [0, 0], way), True)
        for other in (
            (0, 4, 0), (0, 3, 1), (0, 2, 0), (0, 99, 0), (2, 1, 0), (-1, 1, 0), (7, 0, 0), (0, 3), (0, 3, 0, 0), (),
            [0, 3, 0], None, "own", 3, {}, (0, 3, None), (False, 3, 0), ([], [], []),
        ):
            self.assert_none_shown(loom, [0], [
                ([0, 0], way[:number] + [other] + way[number:]) for number in range(4)
            ] + [([0, 0], [other]), ([0, 0], [other] + way[1:])])

    def test_other_lines(self):
        loom = drawn_back([Never(), Each()])
        self.assertIs(is_shown(loom, [0], [2, 2], [SECOND]), True)
        self.assert_none_shown(loom, [0], [
            (line, [SECOND]) for line in (
                [1, 2], [3, 2], [2, 1], [2, 3], [2, 0], [0, 0], [3, 3], [2], [2, 2, 2], [2, 2, 0], [], [-1, 2],
                [2, None], [2, [2]], ["2", "2"], None, (2, 2), 22, "22",
            )
        ])

    def test_truths_are_no_places(self):
        loom = done_again(counting(), [0, 0], [Each(), Each()], True, [("own", 0)])
        self.assertIs(is_shown(loom, [0], [1, 0], []), True)
        self.assert_none_shown(loom, [0], [([True, 0], []), ([1, False], []), ([1, 0], None)])

    def test_a_paper_of_others_that_fell(self):
        loom = drawn_back([Never(), Each()])
        self.assert_none_shown(loom, [1], [([2, 2], [SECOND]), ([2, 2], [])])
        self.assert_none_shown(loom, [0], [([3, 3], [])])
        self.assert_none_shown(loom, [], [([2, 2], [SECOND])])

    def test_a_line_below_the_greatest_is_not_shown_although_it_is_sound(self):
        loom = drawn_back([Each(), Each()])
        self.assertIs(is_sound(loom, [2, 2]), True)
        self.assert_none_shown(loom, [0], [([2, 2], [SECOND]), ([2, 2], []), ([0, 0], [])])


class AnyPaperTest(unittest.TestCase):
    """Ways found by chance are shown; papers and lines spoilt by chance are shown only where the words of [17] hold."""

    def way_by_chance(self, loom, fallen, chance):
        allowed = plainly_allowed(loom, fallen)
        line, paper = [points[-1] for points in allowed], []
        while plainly_broken(loom, line):
            name = chance.choice(plainly_broken(loom, line))
            user, use = loom.letters_sent()[name][0], loom.letters_used()[name]
            line[user] = max(point for point in allowed[user] if point < use)
            paper.append(name)
        return line, paper

    def spoilt(self, loom, line, paper, chance):
        line, paper = list(line), list(paper)
        draw = chance.randrange(6)
        if draw == 0 and paper:
            paper.pop(chance.randrange(len(paper)))
        elif draw == 1 and paper:
            paper.insert(chance.randrange(len(paper) + 1), chance.choice(paper))
        elif draw == 2 and loom.letters_sent():
            paper.insert(chance.randrange(len(paper) + 1), chance.choice(sorted(loom.letters_sent())))
        elif draw == 3:
            chance.shuffle(paper)
        elif draw == 4:
            line[chance.randrange(len(line))] += chance.choice([1, -1])
        else:
            paper = paper[:chance.randrange(len(paper) + 1)]
        return line, paper

    def test_many_weavings(self):
        shown = []
        for seed in range(60):
            weaving = Weaving(seed)
            weaving.weave(30)
            for turn in range(30):
                fallen = weaving.some_hands()
                greatest = greatest_line(weaving.loom, fallen)[0]
                line, paper = self.way_by_chance(weaving.loom, fallen, weaving.chance)
                self.assertEqual(line, greatest)
                self.assertIs(is_shown(weaving.loom, fallen, line, paper), True)
                line, paper = self.spoilt(weaving.loom, line, paper, weaving.chance)
                shown.append(is_shown(weaving.loom, fallen, line, paper))
                self.assertIs(shown[-1], plainly_shown(weaving.loom, fallen, line, paper))
                if shown[-1]:
                    self.assertEqual(line, greatest)
        self.assertIn(True, shown)
        self.assertIn(False, shown)


class TwoFallsTest(unittest.TestCase):
    def test_hands_of_habit_each_that_fall_leave_all_where_they_stand(self):
        for seed in range(40):
            weaving = Weaving(seed)
            for turn in range(3):
                weaving.weave(20)
                for fallen in sets_of_hands(weaving.loom.many):
                    if all(weaving.sizes[hand] == 1 for hand in fallen):
                        self.assertEqual(greatest_line(weaving.loom, fallen), (weaving.loom.places(), []))
                fall(weaving.loom, weaving.some_hands())

    def test_a_hand_of_habit_each_may_go_back_for_the_fall_of_another(self):
        loom = drawn_back([Each(), Never()])
        self.assertEqual(greatest_line(loom, [1])[0], [1, 1])

    def test_for_two_sets_together_the_lesser_one_of_both(self):
        for seed in range(40):
            weaving = Weaving(seed)
            for turn in range(3):
                weaving.weave(20)
                for again in range(20):
                    one, other = weaving.some_hands(), weaving.some_hands()
                    lines = [greatest_line(weaving.loom, fallen)[0] for fallen in (one, other, one + other)]
                    self.assertEqual(lines[2], met_of(lines[0], lines[1]))
                fall(weaving.loom, weaving.some_hands())


class NoLineTest(unittest.TestCase):
    """Where what is needed was thrown away, but not by a keeper, there may be no line at all."""

    def loom(self):
        loom = Loom(counting({(0, 1): [(1, 1)]}), [0, 0], [Never(), Never()], True)
        loom.own(0)
        loom.use(1, (0, 1, 0))
        loom.write(1)
        loom.throw_ahead(1, 1)
        return loom

    def test_no_paper_is_shown(self):
        for line, paper in (([0, 0], [(0, 1, 0)]), ([0, 1], []), ([0, 1], [(0, 1, 0)]), ([0, 0], [])):
            self.assertIs(is_shown(self.loom(), [0], line, paper), False)

    def test_it_is_refused_and_changes_nothing(self):
        loom = self.loom()
        before = told(loom)
        refused(self, NoPoint, greatest_line, loom, [0])
        refused(self, NoPoint, fall, loom, [0])
        self.assertEqual(told(loom), before)
        self.assertEqual(greatest_line(loom, [1]), ([1, 1], []))


class HandedInTest(unittest.TestCase):
    def test_the_loom_and_the_lists_handed_in_stay_as_they_were(self):
        loom = drawn_back([Never(), Never()])
        before = told(loom)
        fallen, line, paper = [0], [0, 0], [SECOND, BACK, FIRST]
        allowed_points(loom, fallen)
        greatest_line(loom, fallen)
        is_shown(loom, fallen, line, paper)
        is_shown(loom, fallen, line, paper[:2])
        self.assertEqual((fallen, line, paper), ([0], [0, 0], [SECOND, BACK, FIRST]))
        self.assertEqual(told(loom), before)

    def test_lists_that_were_told_are_the_askers_own(self):
        loom = drawn_back([Each(), Never()])
        allowed = allowed_points(loom, [1])
        allowed[0].clear()
        allowed[1].append(7)
        allowed.pop()
        self.assertEqual(allowed_points(loom, [1]), [[0, 1, 2, 3], [0, 1]])
        line, paper = greatest_line(loom, [1])
        line[0] = 9
        paper.clear()
        self.assertEqual(greatest_line(loom, [1]), ([1, 1], [BACK]))
        self.assertEqual(loom.points(0), [0, 1, 2, 3])
