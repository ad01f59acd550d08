"""Programs made of four numbers [28]."""

import random
import unittest

from backline.habits import Each
from backline.looms import Loom
from backline.programs import program_of
from tests.weaving import do_row, random_row, told

GREATEST = 10 ** 9


def plainly(a, b, c, m, many, hand, state, word):
    """Point [28] word by word, with what is left reckoned by taking away."""
    whole = a * state + c + hand + b * (word if word is not None else 0)
    n = whole - (whole // m) * m
    letters, k = [], 0
    while k < n - 3 * (n // 3):
        to = n // 3 + k
        letters.append((to - many * (to // many), n + k))
        k += 1
    return n, letters, [n] if n == 4 * (n // 4) else []


class ProgramTest(unittest.TestCase):
    def test_state_letters_and_words(self):
        does = program_of(2, 3, 5, 100, 3)
        # 2 * 10 + 0 + 5 + 1 = 26: two letters, from hand 8 % 3 on; 26 leaves 2 by 4.
        self.assertEqual(does(1, 10, None), (26, [(2, 26), (0, 27)], []))
        # 2 * 10 + 3 * 4 + 5 + 0 = 37: one letter, to hand 12 % 3.
        self.assertEqual(does(0, 10, 4), (37, [(0, 37)], []))
        # 2 * 10 + 3 * 7 + 5 + 2 = 48: no letter, and it is said.
        self.assertEqual(does(2, 10, 7), (48, [], [48]))

    def test_it_tells_a_tuple_of_a_number_and_two_lists(self):
        led = program_of(1, 1, 1, 10, 2)(0, 3, None)
        self.assertIs(type(led), tuple)
        self.assertEqual([type(part) for part in led], [int, list, list])
        self.assertEqual([type(letter) for letter in led[1]], [tuple])

    def test_the_numbers_of_letters(self):
        does = program_of(1, 0, 0, GREATEST, 4)
        self.assertEqual(does(0, 9, None), (9, [], []))
        self.assertEqual(does(0, 10, None), (10, [(3, 10)], []))
        self.assertEqual(does(0, 11, None), (11, [(3, 11), (0, 12)], []))
        self.assertEqual(does(0, 12, None), (12, [], [12]))

    def test_letters_go_to_hands_in_turn_and_to_itself(self):
        for many in (2, 3, 4, 5):
            does = program_of(1, 0, 0, GREATEST, many)
            for n in range(2, 60, 3):
                first = n // 3 % many
                self.assertEqual(does(0, n, None)[1], [(first, n), ((first + 1) % many, n + 1)])
        self.assertEqual(program_of(1, 0, 0, 10, 2)(0, 1, None)[1], [(0, 1)])

    def test_said_where_four_leaves_nothing(self):
        does = program_of(1, 0, 0, GREATEST, 2)
        self.assertEqual([does(0, n, None)[2] for n in range(6)], [[0], [], [], [], [4], []])

    def test_sums_below_nought(self):
        does = program_of(2, 3, 1, 10, 2)
        # -14 + 0 + 1 + 0 = -13: 7 is left.
        self.assertEqual(does(0, -7, None), (7, [(0, 7)], []))
        # 4 - 24 + 1 + 1 = -18: 2 is left.
        self.assertEqual(does(1, 2, -8), (2, [(0, 2), (1, 3)], []))
        self.assertEqual(does(1, -1, 0), (0, [], [0]))
        self.assertEqual(does(0, -10 ** 39, None)[0], 1)

    def test_no_word_counts_as_nought(self):
        does = program_of(0, GREATEST, 0, GREATEST, 2)
        self.assertEqual(does(1, 5, None), does(1, 5, 0))
        does = program_of(1, 7, 0, 1000, 2)
        self.assertEqual((does(0, 5, None)[0], does(0, 5, 0)[0], does(0, 5, 1)[0]), (5, 5, 12))

    def test_the_bounds_of_the_numbers(self):
        self.assertEqual(program_of(0, 0, 0, 1, 2)(1, 99, 99), (0, [], [0]))
        self.assertEqual(program_of(GREATEST, GREATEST, GREATEST, 1, 5)(4, -3, 8), (0, [], [0]))
        self.assertEqual(program_of(0, 0, GREATEST, GREATEST, 2)(1, 99, 99), (1, [(0, 1)], []))
        self.assertEqual(
            program_of(GREATEST, GREATEST, GREATEST - 2, GREATEST, 5)(1, 10 ** 39, -10 ** 39),
            (GREATEST - 1, [], []))
        # 999999998 // 3 is 333333332.
        self.assertEqual(
            program_of(0, 0, GREATEST - 2, GREATEST, 5)(0, 0, None),
            (GREATEST - 2, [(2, GREATEST - 2), (3, GREATEST - 1)], []))

    def test_asked_again_and_lists_of_the_askers_own(self):
        does = program_of(1, 0, 0, 100, 2)
        for n in (8, 20):
            led = does(0, n, None)
            led[1].clear()
            led[2].append(77)
            self.assertEqual(does(0, n, None), plainly(1, 0, 0, 100, 2, 0, n, None))

    def test_two_programs_know_nothing_of_one_another(self):
        one = program_of(1, 1, 1, 50, 2)
        other = program_of(2, 3, 4, 7, 5)
        self.assertEqual(one(1, 10, 9), plainly(1, 1, 1, 50, 2, 1, 10, 9))
        self.assertEqual(other(1, 10, 9), plainly(2, 3, 4, 7, 5, 1, 10, 9))
        self.assertEqual(one(1, 10, 9), (21, [], []))

    def test_numbers_by_chance(self):
        chance = random.Random(28)
        for turn in range(3000):
            most = chance.choice([3, 20, GREATEST])
            a, b, c = [chance.randint(0, most) for number in range(3)]
            m, many = chance.randint(1, most), chance.randint(2, 5)
            far = chance.choice([10, 10 ** 10, 10 ** 40 - 1])
            word = chance.choice([None, chance.randint(-far, far)])
            asked = (chance.randrange(many), chance.randint(-far, far), word)
            self.assertEqual(program_of(a, b, c, m, many)(*asked), plainly(a, b, c, m, many, *asked))

    def test_a_loom_of_such_programs(self):
        chance = random.Random(5)
        for many in (2, 3, 4, 5):
            numbers = (3, 5, 7, 1000, many)
            loom = Loom(program_of(*numbers), [-4] * many, [Each()] * many, True)
            other = Loom(lambda *asked: plainly(*numbers, *asked), [-4] * many, [Each()] * many, True)
            for turn in range(60):
                row = random_row(loom, chance)
                do_row(loom, row)
                do_row(other, row)
            self.assertEqual(told(loom), told(other))
