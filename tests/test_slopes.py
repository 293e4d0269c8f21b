"""[23], [24], [25], and [5] as far as strict heaps cancel one another: least part, slope, shifted, left over."""

import unittest

from shutpairs.errors import LeftOver, NoSum, NotStrict
from shutpairs.slopes import is_left, is_strict, least_part, left_one, shifted, slope_of

GREAT = 10 ** 60 - 1

NOT_STRICT = [
    (1, 1), (2, 2), (3, 1, 1), (3, 3, 1), (5, 4, 4, 3), (2, 2, 1), (7, 7, 6, 5), (1,) * 60, (GREAT, GREAT),
    (GREAT, GREAT, 1), (GREAT, 1, 1), tuple(range(60, 1, -1)) + (2,),
]
# A strict heap, its least part, its slope, and the shifted one.
SHIFTED = [
    ((7, 6, 4), 4, 2, (6, 5, 4, 2)),
    ((3,), 3, 1, (2, 1)),
    ((4,), 4, 1, (3, 1)),
    ((5, 1), 1, 1, (6,)),
    ((5, 4), 4, 2, (4, 3, 2)),
    ((6, 5, 2), 2, 2, (7, 6)),
    ((5, 3, 2), 2, 1, (4, 3, 2, 1)),
    ((9, 8, 7, 3), 3, 3, (10, 9, 8)),
    ((9, 8, 6, 3), 3, 2, (8, 7, 6, 3, 2)),
    ((9, 8, 7, 6, 2), 2, 4, (10, 9, 7, 6)),
    ((8, 7, 6), 6, 3, (7, 6, 5, 3)),
    ((6, 5, 4, 1), 1, 3, (7, 5, 4)),
    ((GREAT,), GREAT, 1, (GREAT - 1, 1)),
    ((GREAT, 1), 1, 1, (GREAT + 1,)),
    ((GREAT, GREAT - 1, 2), 2, 2, (GREAT + 1, GREAT)),
    ((GREAT, GREAT - 1, GREAT - 3), GREAT - 3, 2, (GREAT - 1, GREAT - 2, GREAT - 3, 2)),
]


def strict_by_definition(n, greatest):
    if n == 0:
        return [()]
    firsts = range(min(n, greatest), 0, -1)
    return [(first,) + rest for first in firsts for rest in strict_by_definition(n - first, first - 1)]


def slope_by_definition(heap):
    slopes = [t for t in range(1, len(heap) + 1) if all(heap[k] == heap[k - 1] - 1 for k in range(1, t))]
    return max(slopes)


def left_to(most):
    """Those left over, by their sums, up to that of `most` parts."""
    left = {0: ()}
    for m in range(1, most + 1):
        for first in (2 * m - 1, 2 * m):
            heap = tuple(first - k for k in range(m))
            left[sum(heap)] = heap
    return left


STRICT = [heap for n in range(1, 25) for heap in strict_by_definition(n, n)]
# Of one to sixty parts, with a slope of each length at their heads.
MANY_PARTS = [
    tuple(GREAT - k for k in range(slope)) + tuple(range(3 * (parts - slope), 0, -3))
    for parts in range(1, 61) for slope in (1, parts // 2 + 1, parts)
]


class Strict(unittest.TestCase):
    def test_told(self):
        for heap in ((), (1,), (2, 1), (7, 6, 4), (GREAT,), (GREAT, 1), tuple(range(60, 0, -1))):
            self.assertIs(is_strict(heap), True)
        for heap in NOT_STRICT:
            self.assertIs(is_strict(heap), False)

    def test_of_none_to_sixty_parts(self):
        for heap in MANY_PARTS:
            self.assertIs(is_strict(heap), True)
            for at in range(len(heap)):
                self.assertIs(is_strict(heap[:at + 1] + heap[at:]), False)


class LeastPartAndSlope(unittest.TestCase):
    def test_told(self):
        for heap, least, slope, told in SHIFTED:
            self.assertEqual(least_part(heap), least)
            self.assertEqual(slope_of(heap), slope)

    def test_by_definition(self):
        for heap in STRICT + MANY_PARTS:
            self.assertEqual(least_part(heap), min(heap))
            self.assertEqual(slope_of(heap), slope_by_definition(heap))

    def test_a_slope_that_goes_on_behind_a_gap_is_not_counted(self):
        self.assertEqual(slope_of((9, 7, 6, 5, 4)), 1)
        self.assertEqual(slope_of((9, 8, 6, 5, 4)), 2)
        self.assertEqual(slope_of((9, 8, 7, 6, 5)), 5)

    def test_not_strict(self):
        for heap in NOT_STRICT + [()]:
            self.assertRaises(NotStrict, least_part, heap)
            self.assertRaises(NotStrict, slope_of, heap)


class LeftOverOnes(unittest.TestCase):
    def test_told(self):
        for heap in ((), (1,), (2,), (3, 2), (4, 3), (5, 4, 3), (6, 5, 4), (7, 6, 5, 4), (8, 7, 6, 5)):
            self.assertIs(is_left(heap), True)
        for heap in ((3,), (2, 1), (5, 4), (4, 2), (5, 3), (7, 6, 5), (4, 3, 2), (6, 4, 3), (7, 5, 4), (GREAT,)):
            self.assertIs(is_left(heap), False)

    def test_just_those_that_the_document_names(self):
        left = left_to(60)
        for heap in STRICT + MANY_PARTS + list(left.values()):
            self.assertIs(is_left(heap), left.get(sum(heap)) == heap)

    def test_near_to_one_left_over(self):
        for heap in list(left_to(59).values())[3:]:
            m = len(heap)
            self.assertIs(is_left(heap[:-1]), False)
            self.assertIs(is_left(heap[1:]), heap[-1] == m)
            self.assertIs(is_left((heap[0] + 1,) + heap), heap[-1] == m + 1)
            self.assertIs(is_left((heap[0] + 1,) + heap[1:]), False)
            self.assertIs(is_left(tuple(part + 2 for part in heap)), False)

    def test_not_strict(self):
        for heap in NOT_STRICT:
            self.assertRaises(NotStrict, is_left, heap)


class Shifted(unittest.TestCase):
    def test_told(self):
        for heap, least, slope, told in SHIFTED:
            with self.subTest(heap=heap):
                self.assertEqual(shifted(heap), told)
                self.assertIs(type(shifted(heap)), tuple)
                self.assertEqual(shifted(told), heap)

    def test_shifted_again_it_is_the_first_one(self):
        for heap in STRICT + MANY_PARTS:
            if is_left(heap):
                self.assertRaises(LeftOver, shifted, heap)
            else:
                told = shifted(heap)
                self.assertEqual(list(told), sorted(set(told), reverse=True))
                self.assertGreaterEqual(told[-1], 1)
                self.assertEqual(sum(told), sum(heap))
                self.assertEqual(abs(len(told) - len(heap)), 1)
                self.assertIs(is_left(told), False)
                self.assertEqual(shifted(told), heap)

    def test_those_of_each_number_cancel_but_for_the_one_left_over(self):
        left = left_to(6)
        for n in range(25):
            heaps = strict_by_definition(n, n)
            kept = [heap for heap in heaps if heap != left.get(n)]
            self.assertEqual(sorted(shifted(heap) for heap in kept), sorted(kept))
            even = sum(1 for heap in kept if len(heap) % 2 == 0)
            self.assertEqual(2 * even, len(kept))

    def test_left_over(self):
        for heap in left_to(60).values():
            self.assertRaises(LeftOver, shifted, heap)
        self.assertRaises(LeftOver, shifted, ())

    def test_not_strict(self):
        for heap in NOT_STRICT:
            self.assertRaises(NotStrict, shifted, heap)


class LeftOne(unittest.TestCase):
    def test_told(self):
        wanted = {0: (), 1: (1,), 2: (2,), 5: (3, 2), 7: (4, 3), 12: (5, 4, 3), 15: (6, 5, 4), 22: (7, 6, 5, 4)}
        for n in range(23):
            self.assertEqual(left_one(n), wanted.get(n))

    def test_of_each_number_up_to_five_thousand(self):
        left = left_to(60)
        for n in range(5001):
            told = left_one(n)
            self.assertEqual(told, left.get(n))
            self.assertIs(told is None or is_left(told), True)

    def test_the_greatest_ones(self):
        self.assertIs(left_one(5000), None)
        self.assertEqual(left_one(4902), tuple(range(114, 57, -1)))
        self.assertEqual(left_one(4845), tuple(range(113, 56, -1)))

    def test_none_below_nought(self):
        for n in (-1, -2, -5, -7, -5000, -5001, -GREAT):
            self.assertIs(left_one(n), None)

    def test_no_sum_above_five_thousand(self):
        # 5017 and 5075 would have one.
        for n in (5001, 5002, 5017, 5075, 10 ** 6, GREAT):
            self.assertRaises(NoSum, left_one, n)


if __name__ == "__main__":
    unittest.main()
