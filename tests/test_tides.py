"""[25], and [5] as far as the rule goes by which the ways are reckoned: the signs, alone and with the ways."""

import unittest

from shutpairs.counts import ways_of
from shutpairs.errors import NoSum
from shutpairs.slopes import left_one
from shutpairs.tides import signed_ways_to, signs_to

GREAT = 10 ** 60 - 1
BEYOND = (-1, -2, -400, 401, 402, 5000, GREAT, -GREAT)


def strict_by_definition(n, greatest):
    if n == 0:
        return [()]
    firsts = range(min(n, greatest), 0, -1)
    return [(first,) + rest for first in firsts for rest in strict_by_definition(n - first, first - 1)]


def sign_by_definition(n):
    lengths = [len(heap) for heap in strict_by_definition(n, n)]
    return sum(1 for length in lengths if length % 2 == 0) - sum(1 for length in lengths if length % 2 == 1)


def sign_by_left_one(n):
    heap = left_one(n)
    return 0 if heap is None else (-1) ** len(heap)


class Signs(unittest.TestCase):
    def test_told(self):
        self.assertEqual(signs_to(0), [1])
        self.assertEqual(signs_to(1), [1, -1])
        self.assertEqual(signs_to(7), [1, -1, -1, 0, 0, 1, 0, 1])

    def test_of_the_bounds_up_to_forty(self):
        signs = [sign_by_definition(n) for n in range(41)]
        for bound in range(41):
            self.assertEqual(signs_to(bound), signs[:bound + 1])
            self.assertIs(type(signs_to(bound)), list)

    def test_by_the_left_ones_up_to_the_greatest_bound(self):
        self.assertEqual(signs_to(400), [sign_by_left_one(n) for n in range(401)])
        self.assertEqual(signs_to(399), signs_to(400)[:400])

    def test_no_sum(self):
        for bound in BEYOND:
            self.assertRaises(NoSum, signs_to, bound)

    def test_the_told_list_is_a_new_one(self):
        told = signs_to(7)
        later = signs_to(7)
        told[0] = 9
        told.append(9)
        self.assertEqual(later, [1, -1, -1, 0, 0, 1, 0, 1])
        self.assertEqual(signs_to(7), [1, -1, -1, 0, 0, 1, 0, 1])
        self.assertEqual(signed_ways_to(3), [1, 0, 0, 0])


class SignedWays(unittest.TestCase):
    def test_one_at_nought_and_nought_behind_it(self):
        for bound in list(range(41)) + [399, 400]:
            told = signed_ways_to(bound)
            self.assertEqual(told, [1] + [0] * bound)
            self.assertIs(type(told), list)

    def test_it_is_the_sum_of_signs_times_ways(self):
        signs = [sign_by_definition(n) for n in range(41)]
        ways = [ways_of(n) for n in range(41)]
        wanted = [sum(signs[j] * ways[n - j] for j in range(n + 1)) for n in range(41)]
        self.assertEqual(signed_ways_to(40), wanted)

    def test_no_sum(self):
        for bound in BEYOND:
            self.assertRaises(NoSum, signed_ways_to, bound)

    def test_the_told_list_is_a_new_one(self):
        told = signed_ways_to(4)
        later = signed_ways_to(4)
        told[1] = 9
        told.append(9)
        self.assertEqual(later, [1, 0, 0, 0, 0])
        self.assertEqual(signed_ways_to(4), [1, 0, 0, 0, 0])
        self.assertEqual(signs_to(4), [1, -1, -1, 0, 0])
        self.assertEqual(ways_of(4), 5)


if __name__ == "__main__":
    unittest.main()
