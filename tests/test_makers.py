"""[28], [29]: rules that match, made; [3] and [4] of these."""

import copy
import itertools
import math
import unittest

from shutpairs.beside import Beside, first_unlike, sums_of
from shutpairs.errors import NoLanes, TooGreat
from shutpairs.makers import lanes_pair, often_pair
from shutpairs.rules import keeps

# Lanes, levels, and the two rules.
MADE = [
    ([], [], ((), ())),
    ([(1, 2)], [], ((), ())),
    ([], [()], (((),), ((),))),
    ([], [()] * 6, (((),) * 6, ((),) * 6)),
    ([(1, 2)], [(1,)], (((1, 1),), ((2,),))),
    ([(2, 1)], [(1,)], (((2,),), ((1, 1),))),
    ([(2, 3)], [(1,)], (((2, 2, 2),), ((3, 3),))),
    ([(4, 6)], [(1,)], (((4, 4, 4),), ((6, 6),))),
    ([(5, 5)], [(3,), (0,)], (((5, 5, 5), ()), ((5, 5, 5), ()))),
    ([(24, 12)], [(4,)], (((24,) * 4,), ((12,) * 8,))),
    ([(7, 1), (2, 4)], [(1, 1), (0, 2)], (((7, 2, 2), (2,) * 4), ((4,) + (1,) * 7, (4, 4)))),
    ([(1, 3), (3, 1)], [(1, 0), (0, 1), (1, 1)], (
        ((1, 1, 1), (3,), (3, 1, 1, 1)), ((3,), (1, 1, 1), (3, 1, 1, 1)),
    )),
]


def rules_by_definition(lanes, levels):
    one = []
    other = []
    for row in levels:
        lefts = []
        rights = []
        for (left, right), level in zip(lanes, row):
            lefts.extend([left] * (level * right // math.gcd(left, right)))
            rights.extend([right] * (level * left // math.gcd(left, right)))
        one.append(tuple(sorted(lefts, reverse=True)))
        other.append(tuple(sorted(rights, reverse=True)))
    return (tuple(one), tuple(other))


class Lanes(unittest.TestCase):
    def test_told(self):
        for lanes, levels, wanted in MADE:
            with self.subTest(lanes=lanes, levels=levels):
                self.assertEqual(lanes_pair(lanes, levels), wanted)

    def test_as_lists_and_as_tuples(self):
        for lanes, levels, wanted in MADE:
            for given in itertools.product((lanes, tuple(lanes)), (levels, tuple(levels))):
                told = lanes_pair(given[0], given[1])
                self.assertEqual(told, wanted)
                self.assertIs(type(told), tuple)
                for rule in told:
                    self.assertIs(type(rule), tuple)
                    self.assertTrue(all(type(heap) is tuple for heap in rule))

    def test_each_single_lane(self):
        for left, right in itertools.product(range(1, 25), repeat=2):
            wanted = rules_by_definition([(left, right)], [(1,), (2,), (0,)])
            self.assertEqual(lanes_pair([(left, right)], [(1,), (2,), (0,)]), wanted)

    def test_none_to_six_lanes_and_levels(self):
        lanes = [(1, 2), (2, 1), (3, 6), (6, 4), (4, 3), (5, 5)]
        levels = [(1, 0, 0, 1, 2, 0), (2, 1, 0, 0, 0, 4), (0, 0, 1, 2, 0, 1), (1,) * 6, (0,) * 6, (4, 4, 3, 0, 0, 0)]
        for many in range(7):
            for heaps in range(7):
                given = [row[:many] for row in levels[:heaps]]
                told = lanes_pair(lanes[:many], given)
                self.assertEqual(told, rules_by_definition(lanes[:many], given))
                self.assertIs(first_unlike(told[0], told[1]), None)
                self.check_sums(lanes[:many], given, told)

    def check_sums(self, lanes, levels, told):
        for rule in told:
            for choice, total in sums_of(rule):
                greatest = [max([levels[number][k] for number in choice], default=0) for k in range(len(lanes))]
                wanted = sum(level * math.lcm(left, right) for (left, right), level in zip(lanes, greatest))
                self.assertEqual(total, wanted)

    def test_what_was_made_matches(self):
        for lanes, levels, wanted in MADE:
            told = lanes_pair(lanes, levels)
            self.assertEqual(Beside(told[0], told[1]).rules(), told)

    def test_no_lanes(self):
        for lanes in (
            [(1, 2), (1, 3)], [(2, 1), (3, 1)], [(1, 2), (1, 2)], [(1, 2), (3, 4), (1, 5)], [(1, 2), (3, 4), (5, 2)],
            [(4, 5), (5, 4), (6, 6), (7, 6)], [(5, 5), (5, 6)], [(24, 1), (24, 2)],
        ):
            for row in ((0,), (1,), (4,)):
                levels = [row * len(lanes)]
                self.assertRaises(NoLanes, lanes_pair, lanes, levels)
                self.assertRaises(NoLanes, lanes_pair, tuple(lanes), tuple(levels))
            self.assertRaises(NoLanes, lanes_pair, lanes, [])

    def test_a_left_may_be_like_a_right(self):
        self.assertEqual(lanes_pair([(1, 2), (2, 1)], [(1, 1)]), (((2, 1, 1),), ((2, 1, 1),)))

    def test_no_lanes_ahead_of_too_great(self):
        self.assertRaises(NoLanes, lanes_pair, [(1, 24), (1, 23)], [(4, 4)])
        self.assertRaises(NoLanes, lanes_pair, [(24, 1), (23, 1)], [(4, 4)])

    def test_sixty_parts_are_let_by(self):
        self.assertEqual(lanes_pair([(1, 15)], [(4,)]), (((1,) * 60,), ((15,) * 4,)))
        self.assertEqual(lanes_pair([(15, 1)], [(4,)]), (((15,) * 4,), ((1,) * 60,)))
        self.assertEqual(lanes_pair([(1, 20)], [(3,)] * 6), (((1,) * 60,) * 6, ((20,) * 3,) * 6))
        told = lanes_pair([(1, 14), (2, 8)], [(4, 1)])
        self.assertEqual(told, (((2,) * 4 + (1,) * 56,), ((14,) * 4 + (8,),)))

    def test_sixty_one_parts_are_too_great(self):
        self.assertRaises(TooGreat, lanes_pair, [(1, 14), (2, 5)], [(4, 1)])
        self.assertRaises(TooGreat, lanes_pair, [(14, 1), (5, 2)], [(4, 1)])
        self.assertRaises(TooGreat, lanes_pair, [(1, 14), (2, 5)], [(0, 0), (1, 1), (4, 1)])
        self.assertRaises(TooGreat, lanes_pair, [(1, 14), (2, 5)], ((4, 1), (0, 0)))
        self.assertRaises(TooGreat, lanes_pair, [(14, 1), (5, 2)], [(0, 0), (4, 1)])
        self.assertRaises(TooGreat, lanes_pair, [(1, 24)], [(3,)])
        self.assertRaises(TooGreat, lanes_pair, [(24, 1)], [(4,)])

    def test_what_was_handed_in_stays(self):
        for lanes, levels, wanted in MADE:
            given = (list(lanes), list(levels))
            before = copy.deepcopy(given)
            told = lanes_pair(given[0], given[1])
            self.assertEqual(given, before)
            given[0].append((9, 9))
            given[1].append((1,))
            self.assertEqual(told, wanted)
        given = ([(1, 24)], [(4,)])
        self.assertRaises(TooGreat, lanes_pair, given[0], given[1])
        self.assertEqual(given, ([(1, 24)], [(4,)]))


class Often(unittest.TestCase):
    def test_told(self):
        self.assertEqual(often_pair(2, [1, 3]), (((1, 1), (3, 3)), ((2,), (6,))))
        self.assertEqual(often_pair(3, [24, 1]), (((24, 24, 24), (1, 1, 1)), ((72,), (3,))))
        self.assertEqual(often_pair(9, [2]), (((2,) * 9,), ((18,),)))
        self.assertEqual(often_pair(2, [4, 2, 1]), (((4, 4), (2, 2), (1, 1)), ((8,), (4,), (2,))))

    def test_of_none(self):
        for times in range(2, 10):
            self.assertEqual(often_pair(times, []), ((), ()))
            self.assertEqual(often_pair(times, ()), ((), ()))

    def test_of_two_to_nine_times_as_lists_and_as_tuples(self):
        numbers = [6, 1, 24, 2, 12, 3]
        for times in range(2, 10):
            for many in range(7):
                wanted = (
                    tuple((number,) * times for number in numbers[:many]),
                    tuple((times * number,) for number in numbers[:many]),
                )
                for given in (numbers[:many], tuple(numbers[:many])):
                    told = often_pair(times, given)
                    self.assertEqual(told, wanted)
                    self.assertIs(type(told), tuple)
                    self.assertTrue(all(type(rule) is tuple for rule in told))
                    self.assertIs(first_unlike(told[0], told[1]), None)

    def test_what_keeps_them(self):
        one, other = often_pair(3, [1, 2])
        self.assertTrue(keeps(one, (6, 3, 2, 2, 1, 1)))
        self.assertFalse(keeps(one, (2, 2, 2)))
        self.assertFalse(keeps(one, (5, 1, 1, 1, 1)))
        self.assertTrue(keeps(other, (2, 2, 2, 1, 1, 1)))
        self.assertFalse(keeps(other, (6, 1)))
        self.assertFalse(keeps(other, (3,)))

    def test_no_lanes(self):
        for numbers in ([1, 1], [3, 2, 3], [1, 2, 3, 4, 5, 1], [24, 24], [5, 6, 6], [2] * 6):
            for times in range(2, 10):
                self.assertRaises(NoLanes, often_pair, times, numbers)
                self.assertRaises(NoLanes, often_pair, times, tuple(numbers))

    def test_what_was_handed_in_stays(self):
        numbers = [3, 1, 2]
        told = often_pair(2, numbers)
        self.assertEqual(numbers, [3, 1, 2])
        numbers.append(9)
        self.assertEqual(told, (((3, 3), (1, 1), (2, 2)), ((6,), (2,), (4,))))
        alike = [3, 3]
        self.assertRaises(NoLanes, often_pair, 2, alike)
        self.assertEqual(alike, [3, 3])


if __name__ == "__main__":
    unittest.main()
