"""Threads [4] to [9], and the interface's row on backline/threads.py."""

import random
import unittest

from backline.errors import NoPoint
from backline.habits import Bundle, Each, Never
from backline.threads import Event, Thread
from tests.weaving import PlainThread, event, habit_of, refused


def thread_of(habit, steps, start=100):
    """A thread that did steps, "d" for a deed and "w" for a writing; the state at place k is start + k."""
    thread = Thread(start, habit)
    for step in steps:
        if step == "w":
            thread.write()
        else:
            thread.do(event(start + thread.here() + 1))
    return thread


def fields(thread):
    return [(each.used, each.state, each.sent, each.said) for each in thread.events()]


class EventsTest(unittest.TestCase):
    def test_event_has_the_fields_of_its_arguments(self):
        made = Event((1, 2, 0), -5, [(0, 7), (1, -8)], [9, 10])
        self.assertEqual((made.used, made.state), ((1, 2, 0), -5))
        self.assertEqual((made.sent, made.said), ([(0, 7), (1, -8)], [9, 10]))
        self.assertIsNone(Event(None, 0, [], []).used)

    def test_event_keeps_lists_of_its_own(self):
        sent, said = [(0, 7)], [9]
        made = Event(None, 1, sent, said)
        sent.append((1, 1))
        said.clear()
        self.assertEqual((made.sent, made.said), ([(0, 7)], [9]))

    def test_thread_stands_at_the_number_of_its_events(self):
        thread = Thread(5, Never())
        for number in range(4):
            self.assertEqual(thread.here(), number)
            self.assertIsNone(thread.do(event(number)))
            self.assertIsNone(thread.write())
        self.assertEqual(thread.here(), 4)

    def test_events_are_told_in_their_order_field_by_field(self):
        thread = Thread(5, Never())
        self.assertEqual(thread.events(), [])
        thread.do(Event(None, 6, [(1, 60), (0, 61)], [7]))
        thread.do(Event((1, 1, 2), -10 ** 40 + 1, [], [8, 8]))
        self.assertEqual(fields(thread), [
            (None, 6, [(1, 60), (0, 61)], [7]),
            ((1, 1, 2), -10 ** 40 + 1, [], [8, 8]),
        ])
        self.assertIsInstance(thread.events()[0], Event)

    def test_what_was_handed_in_or_told_changes_no_later_answer(self):
        sent, said = [(1, 60)], [7]
        given = Event(None, 6, sent, said)
        thread = Thread(5, Each())
        thread.do(given)
        before = fields(thread)
        sent.append((0, 0))
        said.append(0)
        given.sent.clear()
        given.said.append(1)
        given.state = 99
        told = thread.events()
        told[0].sent.append((2, 2))
        told[0].said.clear()
        told[0].state = 98
        told.clear()
        thread.points().append(77)
        thread.points().clear()
        self.assertEqual(fields(thread), before)
        self.assertEqual(thread.points(), [0, 1])
        self.assertEqual(thread.state_at(1), 6)

    def test_doing_changes_nothing_of_the_event(self):
        given = Event((0, 1, 0), 6, [(1, 60)], [7])
        thread = Thread(5, Bundle(1))
        thread.do(given)
        thread.cut(0, False)
        self.assertEqual((given.used, given.state, given.sent, given.said), ((0, 1, 0), 6, [(1, 60)], [7]))


class PointsTest(unittest.TestCase):
    def assert_points(self, habit, steps, points):
        self.assertEqual(thread_of(habit, steps).points(), points)

    def test_at_first_there_is_a_writing_at_place_0(self):
        for habit in (Never(), Each(), Bundle(1), Bundle(2), Bundle(20)):
            self.assert_points(habit, "", [0])

    def test_never_writes_no_event_down(self):
        self.assert_points(Never(), "ddd", [0])
        self.assert_points(Never(), "ddwdwdd", [0, 2, 3])

    def test_each_writes_every_event_down(self):
        self.assert_points(Each(), "ddd", [0, 1, 2, 3])
        self.assert_points(Each(), "ddwdw", [0, 1, 2, 3])

    def test_bundle_of_one_is_like_each(self):
        self.assert_points(Bundle(1), "d", [0, 1])
        self.assert_points(Bundle(1), "ddwd", [0, 1, 2, 3])

    def test_bundle_of_two(self):
        self.assert_points(Bundle(2), "d", [0])
        self.assert_points(Bundle(2), "dd", [0, 1, 2])
        self.assert_points(Bundle(2), "ddd", [0, 1, 2])
        self.assert_points(Bundle(2), "dddd", [0, 1, 2, 3, 4])

    def test_bundle_of_twenty(self):
        self.assert_points(Bundle(20), "d" * 19, [0])
        self.assert_points(Bundle(20), "d" * 20, list(range(21)))
        self.assert_points(Bundle(20), "d" * 39, list(range(21)))
        self.assert_points(Bundle(20), "d" * 40, list(range(41)))

    def test_a_writing_writes_down_what_is_piled_up(self):
        self.assert_points(Bundle(3), "dw", [0, 1])
        self.assert_points(Bundle(3), "ddw", [0, 1, 2])
        self.assert_points(Bundle(20), "dddwd", [0, 1, 2, 3])

    def test_behind_a_writing_the_pile_begins_anew(self):
        self.assert_points(Bundle(3), "ddwd", [0, 1, 2])
        self.assert_points(Bundle(3), "ddwdd", [0, 1, 2])
        self.assert_points(Bundle(3), "ddwddd", [0, 1, 2, 3, 4, 5])

    def test_a_second_writing_at_one_place_changes_nothing(self):
        for habit in (Never(), Each(), Bundle(2)):
            for steps in ("", "d", "dd", "dwd"):
                once, twice = thread_of(habit, steps + "w"), thread_of(habit, steps + "www")
                self.assertEqual(once.points(), twice.points())
                self.assertEqual(once.here(), twice.here())

    def test_a_writing_at_place_0_changes_nothing(self):
        self.assert_points(Never(), "wdd", [0])
        self.assert_points(Bundle(2), "wd", [0])
        self.assert_points(Bundle(2), "wdd", [0, 1, 2])

    def test_threads_of_one_habit_object_know_nothing_of_one_another(self):
        habit = Bundle(2)
        one, other = Thread(0, habit), Thread(0, habit)
        one.do(event(1))
        other.do(event(1))
        self.assertEqual((one.points(), other.points()), ([0], [0]))


class StatesTest(unittest.TestCase):
    def test_the_state_at_place_0_and_where_the_thread_stands(self):
        thread = Thread(-3, Never())
        self.assertEqual(thread.state_at(0), -3)
        thread.do(event(8))
        thread.do(event(9))
        self.assertEqual((thread.state_at(0), thread.state_at(2)), (-3, 9))

    def test_the_state_at_each_point(self):
        for habit in (Never(), Each(), Bundle(1), Bundle(2), Bundle(3), Bundle(20)):
            thread = thread_of(habit, "ddwdddwd")
            for place in thread.points() + [thread.here()]:
                self.assertEqual(thread.state_at(place), 100 + place)

    def test_every_other_place_is_refused(self):
        thread = thread_of(Never(), "ddwddwd")
        for place in (1, 3, -1, -2, -5, -6, 6, 7, 100, -10 ** 40, 10 ** 40):
            refused(self, NoPoint, thread.state_at, place)
        piled = thread_of(Bundle(4), "ddddddd")
        for place in (5, 6, 8, -1, -7, -8):
            refused(self, NoPoint, piled.state_at, place)
        self.assertEqual(piled.state_at(7), 107)

    def test_what_is_no_whole_number_is_no_place(self):
        thread = thread_of(Each(), "dd")
        for place in (True, False, None, "1"):
            refused(self, NoPoint, thread.state_at, place)
            refused(self, NoPoint, thread.cut, place, False)
        self.assertEqual(thread.points(), [0, 1, 2])


class CutTest(unittest.TestCase):
    def test_one_that_stands_is_cut_where_it_stands_and_nothing_changes(self):
        thread = thread_of(Bundle(3), "dd")
        self.assertIsNone(thread.cut(2, True))
        self.assertEqual((thread.here(), thread.points(), thread.state_at(2)), (2, [0], 102))
        thread.do(event(103))
        self.assertEqual(thread.points(), [0, 1, 2, 3])

    def test_one_that_stands_where_there_is_no_point_keeps_all_by_never(self):
        thread = thread_of(Never(), "dwd")
        thread.cut(2, True)
        self.assertEqual((thread.here(), thread.points()), (2, [0, 1]))

    def test_one_that_fell_is_cut_at_a_point_even_where_it_stands(self):
        thread = thread_of(Never(), "dw")
        self.assertIsNone(thread.cut(1, False))
        self.assertEqual((thread.here(), thread.points()), (1, [0, 1]))
        bundled = thread_of(Bundle(2), "dd")
        bundled.cut(2, False)
        bundled.do(event(103))
        self.assertEqual(bundled.points(), [0, 1, 2])

    def test_one_that_fell_where_it_stands_at_no_point_is_refused(self):
        for habit in (Never(), Bundle(2), Bundle(20)):
            thread = thread_of(habit, "d")
            refused(self, NoPoint, thread.cut, 1, False)
            self.assertEqual((thread.here(), thread.points()), (1, [0]))

    def test_a_refused_cut_leaves_what_is_piled_up(self):
        thread = thread_of(Bundle(2), "d")
        for place, stands in ((1, False), (2, True), (2, False), (-1, True), (-1, False)):
            refused(self, NoPoint, thread.cut, place, stands)
        thread.do(event(102))
        self.assertEqual(thread.points(), [0, 1, 2])

    def test_a_place_that_is_no_point_is_refused(self):
        thread = thread_of(Never(), "ddwdd")
        for stands in (True, False):
            for place in (1, 3, 5, -1, -4, 10 ** 40):
                refused(self, NoPoint, thread.cut, place, stands)
        self.assertEqual((thread.here(), thread.points()), (4, [0, 2]))

    def test_events_and_writings_behind_the_place_are_gone(self):
        for stands in (True, False):
            thread = thread_of(Never(), "dwdwdwd")
            thread.cut(2, stands)
            self.assertEqual((thread.here(), thread.points()), (2, [0, 1, 2]))
            self.assertEqual([each.state for each in thread.events()], [101, 102])
            refused(self, NoPoint, thread.state_at, 3)
            thread.do(event(7))
            self.assertEqual((thread.state_at(3), thread.points()), (7, [0, 1, 2]))

    def test_a_writing_that_is_gone_can_be_made_anew(self):
        thread = thread_of(Never(), "dwdw")
        thread.cut(1, False)
        thread.do(event(7))
        self.assertEqual(thread.points(), [0, 1])
        thread.write()
        self.assertEqual(thread.points(), [0, 1, 2])

    def test_by_each_what_is_left_stays_written_down(self):
        thread = thread_of(Each(), "ddddd")
        thread.cut(3, False)
        self.assertEqual(thread.points(), [0, 1, 2, 3])
        thread.do(event(9))
        self.assertEqual(thread.points(), [0, 1, 2, 3, 4])

    def test_by_bundle_none_is_piled_up_behind_a_cut(self):
        for stands in (True, False):
            thread = thread_of(Bundle(3), "ddddd")
            thread.cut(2, stands)
            self.assertEqual(thread.points(), [0, 1, 2])
            thread.do(event(1))
            thread.do(event(1))
            self.assertEqual(thread.points(), [0, 1, 2])
            thread.do(event(1))
            self.assertEqual(thread.points(), [0, 1, 2, 3, 4, 5])

    def test_cut_at_place_0(self):
        for habit in (Never(), Each(), Bundle(2)):
            thread = thread_of(habit, "ddwd")
            thread.cut(0, False)
            self.assertEqual((thread.here(), thread.events(), thread.points()), (0, [], [0]))
            self.assertEqual(thread.state_at(0), 100)


class ThrowTest(unittest.TestCase):
    def test_of_several_at_or_ahead_the_last_one_is_kept(self):
        thread = thread_of(Never(), "dwdwddwd")
        self.assertIsNone(thread.throw_ahead(3))
        self.assertEqual((thread.points(), thread.here()), ([2, 4], 5))

    def test_one_at_the_place_itself_is_kept(self):
        thread = thread_of(Never(), "dwdwddwd")
        thread.throw_ahead(2)
        self.assertEqual(thread.points(), [2, 4])

    def test_from_0_to_where_it_stands(self):
        thread = thread_of(Never(), "dwdwd")
        thread.throw_ahead(0)
        self.assertEqual(thread.points(), [0, 1, 2])
        thread.throw_ahead(3)
        self.assertEqual(thread.points(), [2])

    def test_where_there_is_one_nothing_goes(self):
        thread = thread_of(Never(), "ddwd")
        thread.throw_ahead(1)
        self.assertEqual(thread.points(), [0, 2])

    def test_where_there_is_none_nothing_changes(self):
        thread = thread_of(Never(), "dddwdwd")
        thread.throw_ahead(4)
        self.assertEqual(thread.points(), [4])
        for place in (0, 1, 3):
            thread.throw_ahead(place)
            self.assertEqual(thread.points(), [4])
        behind = thread_of(Never(), "dddwdwdw")
        behind.throw_ahead(3)
        behind.throw_ahead(2)
        self.assertEqual(behind.points(), [3, 4, 5])

    def test_by_each_and_bundle_the_points_begin_at_the_first_writing_left(self):
        each = thread_of(Each(), "ddwdd")
        each.throw_ahead(3)
        self.assertEqual(each.points(), [2, 3, 4])
        bundle = thread_of(Bundle(2), "dwddd")
        bundle.throw_ahead(1)
        self.assertEqual(bundle.points(), [1, 2, 3])
        unwritten = thread_of(Each(), "ddd")
        unwritten.throw_ahead(3)
        self.assertEqual(unwritten.points(), [0, 1, 2, 3])

    def test_a_place_that_is_a_point_no_more_is_refused(self):
        for habit in (Never(), Each(), Bundle(2)):
            thread = thread_of(habit, "dwdwd")
            thread.throw_ahead(2)
            points = thread.points()
            self.assertNotIn(1, points)
            for place in (0, 1):
                refused(self, NoPoint, thread.cut, place, False)
                refused(self, NoPoint, thread.cut, place, True)
                refused(self, NoPoint, thread.state_at, place)
            self.assertEqual((thread.points(), thread.here()), (points, 3))
            thread.cut(2, False)
            self.assertEqual((thread.points(), thread.here()), ([2], 2))

    def test_events_stay(self):
        thread = thread_of(Never(), "dwdwd")
        thread.throw_ahead(3)
        self.assertEqual([each.state for each in thread.events()], [101, 102, 103])
        self.assertEqual(thread.state_at(3), 103)

    def test_what_is_piled_up_stays(self):
        thread = thread_of(Bundle(3), "dwdd")
        thread.throw_ahead(3)
        self.assertEqual(thread.points(), [1])
        thread.do(event(1))
        self.assertEqual(thread.points(), [1, 2, 3, 4])

    def test_a_place_somewhat_beyond_is_not_refused(self):
        thread = thread_of(Never(), "dwdwd")
        thread.throw_ahead(-1)
        self.assertEqual(thread.points(), [0, 1, 2])
        thread.throw_ahead(5)
        self.assertEqual(thread.points(), [2])


class WeavingsTest(unittest.TestCase):
    """Many weavings, each step beside the document's words told plainly."""

    def step(self, thread, plain, chance):
        draw = chance.randrange(20)
        here = thread.here()
        if draw < 11:
            state = chance.randrange(-10 ** 40 + 1, 10 ** 40)
            thread.do(event(state))
            plain.do(state)
        elif draw < 15:
            thread.write()
            plain.write()
        elif draw < 18:
            place, stands = chance.randrange(-1, here + 2), chance.random() < 0.5
            if plain.cut(place, stands):
                thread.cut(place, stands)
            else:
                refused(self, NoPoint, thread.cut, place, stands)
        else:
            place = chance.randrange(0, here + 1)
            thread.throw_ahead(place)
            plain.throw_ahead(place)

    def assert_same(self, thread, plain):
        self.assertEqual(thread.here(), len(plain.states))
        self.assertEqual(thread.points(), plain.points())
        self.assertEqual([each.state for each in thread.events()], plain.states)
        for place in range(-2, thread.here() + 3):
            if plain.state_at(place) is None:
                refused(self, NoPoint, thread.state_at, place)
            else:
                self.assertEqual(thread.state_at(place), plain.state_at(place))

    def test_each_habit(self):
        # 0 stands for Never, 1 for Each, which a bundle of one is just like.
        for number in (0, 1, 2, 3, 5, 20):
            for seed in range(40):
                chance = random.Random(seed * 100 + number)
                thread, plain = Thread(7, habit_of(number)), PlainThread(7, number)
                for turn in range(40):
                    self.step(thread, plain, chance)
                    self.assert_same(thread, plain)
