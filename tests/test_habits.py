"""The habits [5], and the interface's row on backline/habits.py."""

import unittest

from backline.errors import NoSize
from backline.habits import Bundle, Each, Habit, Never
from tests.weaving import refused


class HabitsTest(unittest.TestCase):
    def test_each_habit_stands_straight_under_the_base(self):
        for habit in (Never, Each, Bundle):
            self.assertEqual(habit.__bases__, (Habit,))

    def test_habits_are_made_as_told(self):
        for habit in (Habit(), Never(), Each(), Bundle(3)):
            self.assertIsInstance(habit, Habit)

    def test_bundle_has_its_size(self):
        for size in range(1, 21):
            self.assertEqual(Bundle(size).size, size)

    def test_another_size_is_refused(self):
        for size in (0, 21, -1, 22, -2, -20, 100, 10 ** 40, -10 ** 40, 10 ** 5000, -10 ** 5000):
            refused(self, NoSize, Bundle, size)

    def test_what_is_no_whole_number_is_no_size(self):
        for size in (True, False, None, "3", "", 2.0, [2], (2,), {}):
            refused(self, NoSize, Bundle, size)
