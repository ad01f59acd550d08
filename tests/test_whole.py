"""The promise [3] over weavings of all that there is: deeds, writings, falls, keepers that throw away, and pictures."""

import random
import unittest

from backline.backs import again, fall
from backline.errors import NoMark, NoPoint, TooSoon
from backline.falls import greatest_line, is_shown
from backline.keepers import Keeper, base_of
from backline.lines import is_sound, on_road
from backline.looms import Loom
from backline.pictures import Picture
from backline.programs import program_of
from backline.weavetexts import read_rows, rows_shown
from tests.weaving import (
    but_points, do_row, greatest_by_search, habit_of, plainly_broken, random_row, refused, sets_of_hands, told,
)


class Whole:
    """A loom with a keeper that throws away, and another one woven alike of which nothing is thrown away."""

    def __init__(self, seed):
        self.chance = random.Random(seed)
        many = 2 + seed % 3
        starts = [self.chance.randrange(-50, 50) for hand in range(many)]
        habits = [habit_of(self.chance.choice([0, 0, 1, 2, 3])) for hand in range(many)]
        does = program_of(self.chance.randrange(50), 3, seed, self.chance.choice([7, 50, 10 ** 9]), many)
        self.made_of = (does, starts, habits, True)
        self.loom, self.kept = Loom(*self.made_of), Loom(*self.made_of)
        self.keeper = Keeper(self.loom)
        self.pictures = []

    def weave(self):
        row = random_row(self.loom, self.chance)
        do_row(self.loom, row)
        do_row(self.kept, row)

    def some_hands(self):
        return self.chance.sample(range(self.loom.many), self.chance.randrange(self.loom.many + 1))

    def come(self):
        for picture in self.pictures:
            sender, to = self.chance.sample(range(self.loom.many), 2)
            try:
                picture.come(sender, to)
            except (NoMark, TooSoon):
                continue


class PromiseTest(unittest.TestCase):
    def check_lines(self, whole):
        for fallen in sets_of_hands(whole.loom.many):
            line, paper = greatest_line(whole.loom, fallen)
            self.assertEqual(line, greatest_by_search(whole.loom, fallen))
            self.assertEqual(plainly_broken(whole.loom, line), [])
            self.assertIs(is_shown(whole.loom, fallen, line, paper), True)
            self.assertEqual(line, greatest_line(whole.kept, fallen)[0])

    def check_fall(self, whole):
        fallen = whole.some_hands()
        line = greatest_line(whole.loom, fallen)[0]
        road = on_road(whole.loom, line)
        self.assertEqual(fall(whole.loom, fallen)[0], line)
        self.assertEqual(fall(whole.kept, fallen)[0], line)
        self.assertEqual((whole.loom.places(), whole.loom.road()), (line, road))
        # Of a picture whose loom went back nothing is promised.
        whole.pictures = []

    def check_rows(self, whole):
        rows = read_rows(rows_shown(whole.loom.rows()))
        self.assertEqual(but_points(told(again(*whole.made_of, rows))), but_points(told(whole.loom)))
        self.assertEqual(but_points(told(whole.kept)), but_points(told(whole.loom)))

    def check_heard(self, whole):
        heard = whole.keeper.heard()
        base = base_of(whole.loom)
        for hand, place, word in heard:
            self.assertLessEqual(place, base[hand])
            self.assertIn(word, whole.loom.words_of(hand)[place - 1])
        self.assertEqual(len(heard), len(set(heard)))

    def check_pictures(self, whole):
        done = [picture for picture in whole.pictures if picture.is_done()]
        for picture in done:
            line = picture.line()
            self.assertTrue(is_sound(whole.loom, line))
            self.assertEqual(plainly_broken(whole.loom, line), [])
            sent = whole.loom.letters_sent()
            self.assertEqual(
                picture.letters(), [name for name in on_road(whole.loom, line) if sent[name][0] != name[0]])
        return len(done)

    def turn(self, whole):
        draw = whole.chance.random()
        if draw < 0.05:
            self.check_fall(whole)
        elif draw < 0.1:
            whole.keeper.tell()
        elif draw < 0.15:
            whole.keeper.throw()
        elif draw < 0.2:
            whole.pictures.append(Picture(whole.loom, whole.chance.randrange(whole.loom.many)))
        elif draw < 0.4:
            whole.come()
        else:
            whole.weave()

    def test_weavings_by_chance(self):
        done = 0
        for seed in range(30):
            whole = Whole(seed)
            with self.subTest(seed):
                for turn in range(70):
                    self.turn(whole)
                    self.check_heard(whole)
                    done += self.check_pictures(whole)
                    if turn % 7 == 0:
                        self.check_lines(whole)
                        self.check_rows(whole)
        self.assertGreater(done, 100)

    def test_a_going_back_to_what_was_thrown_away_is_refused(self):
        whole = Whole(1)
        for turn in range(40):
            whole.weave()
        for hand in range(whole.loom.many):
            whole.loom.write(hand)
        whole.keeper.throw()
        before = told(whole.loom)
        refused(self, NoPoint, whole.loom.go_to, [0] * whole.loom.many, list(range(whole.loom.many)))
        self.assertEqual(told(whole.loom), before)
