"""[26]: polynomials multiplied and added, and the heads of a fraction; [3] and [4] of these."""

import unittest

from shutpairs.errors import NoBottom, NoSum
from shutpairs.polys import heads, poly_plus, poly_times

GREAT = 10 ** 60 - 1
BEYOND = (-1, -2, 401, 402, GREAT, -GREAT)

POLYS = [
    (),
    (1,),
    (-1,),
    (GREAT,),
    (1, -1),
    (1, 1),
    (-1, 1),
    (0, 0, 5),
    (3, 0, -2, 0, 7),
    (0, GREAT, -GREAT, 1),
    tuple(range(1, 41)),
    tuple((-1) ** k * (GREAT - k) for k in range(40)),
    (0,) * 39 + (-GREAT,),
    (1,) + (0,) * 38 + (1,),
]


def times_by_definition(one, other):
    powers = {}
    for power, number in enumerate(one):
        for fellow, factor in enumerate(other):
            powers[power + fellow] = powers.get(power + fellow, 0) + number * factor
    return by_powers(powers)


def plus_by_definition(one, other):
    powers = dict(enumerate(one))
    for power, number in enumerate(other):
        powers[power] = powers.get(power, 0) + number
    return by_powers(powers)


def by_powers(powers):
    last = max([power for power, number in powers.items() if number != 0], default=-1)
    return tuple(powers.get(power, 0) for power in range(last + 1))


class Times(unittest.TestCase):
    def test_told(self):
        self.assertEqual(poly_times((1, 1), (1, -1)), (1, 0, -1))
        self.assertEqual(poly_times((1, 2), (3, 4, 5)), (3, 10, 13, 10))
        self.assertEqual(poly_times((0, 2), (0, 0, 3)), (0, 0, 0, 6))
        self.assertEqual(poly_times((7,), (-2, 1)), (-14, 7))
        self.assertEqual(poly_times((1, 1, 1), (1, -1)), (1, 0, 0, -1))

    def test_nought(self):
        for poly in POLYS:
            self.assertEqual(poly_times(poly, ()), ())
            self.assertEqual(poly_times((), poly), ())

    def test_by_definition(self):
        for one in POLYS:
            for other in POLYS:
                told = poly_times(one, other)
                self.assertEqual(told, times_by_definition(one, other))
                self.assertIs(type(told), tuple)
                self.assertEqual(len(told), len(one) + len(other) - 1 if one and other else 0)

    def test_of_what_was_told(self):
        poly = (1,)
        for step in range(60):
            poly = poly_times(poly, (1, -1))
        self.assertEqual(len(poly), 61)
        self.assertEqual(poly[:3] + poly[-2:], (1, -60, 1770, -60, 1))


class Plus(unittest.TestCase):
    def test_told(self):
        self.assertEqual(poly_plus((1, 2, 3), (4, 5)), (5, 7, 3))
        self.assertEqual(poly_plus((4, 5), (1, 2, 3)), (5, 7, 3))
        self.assertEqual(poly_plus((), (0, 1)), (0, 1))
        self.assertEqual(poly_plus((0, 1), ()), (0, 1))
        self.assertEqual(poly_plus((), ()), ())

    def test_without_noughts_at_the_end(self):
        self.assertEqual(poly_plus((1, 2, 3), (-1, -2, -3)), ())
        self.assertEqual(poly_plus((1, 2, 3), (0, 0, -3)), (1, 2))
        self.assertEqual(poly_plus((1, 0, 3), (4, 0, -3)), (5,))
        self.assertEqual(poly_plus((1, 2, 3), (-1, 5, -3)), (0, 7))
        self.assertEqual(poly_plus((1, 2, 3), (-1, -2)), (0, 0, 3))

    def test_by_definition(self):
        for one in POLYS:
            for other in POLYS:
                told = poly_plus(one, other)
                self.assertEqual(told, plus_by_definition(one, other))
                self.assertIs(type(told), tuple)

    def test_all_cancels(self):
        for poly in POLYS:
            self.assertEqual(poly_plus(poly, tuple(-number for number in poly)), ())


class Heads(unittest.TestCase):
    BOTTOMS = [poly for poly in POLYS if poly[:1] == (1,)] + [(1, GREAT), (1, 0, 0, -GREAT, 5)]

    def test_told(self):
        self.assertEqual(heads((1,), (1, -1), 4), [1, 1, 1, 1, 1])
        self.assertEqual(heads((1,), (1, -1, -1), 7), [1, 1, 2, 3, 5, 8, 13, 21])
        self.assertEqual(heads((0, 1), (1, -2, 1), 5), [0, 1, 2, 3, 4, 5])
        self.assertEqual(heads((2, 3, 4), (1,), 4), [2, 3, 4, 0, 0])
        self.assertEqual(heads((2, 3, 4), (1,), 1), [2, 3])
        self.assertEqual(heads((), (1, 5), 3), [0, 0, 0, 0])
        self.assertEqual(heads((7, 7), (1, 1), 0), [7])

    def test_they_times_the_bottom_are_the_top(self):
        for top in POLYS:
            for bottom in self.BOTTOMS:
                for bound in list(range(31)):
                    told = heads(top, bottom, bound)
                    self.assertIs(type(told), list)
                    self.assertEqual(len(told), bound + 1)
                    back = times_by_definition(bottom, told) + (0,) * (bound + 1)
                    self.assertEqual(back[:bound + 1], (top + (0,) * (bound + 1))[:bound + 1])

    def test_the_greatest_bound(self):
        self.assertEqual(heads((1,), (1, -1), 400), [1] * 401)
        self.assertEqual(heads((0, 1), (1, -2, 1), 400), list(range(401)))
        told = heads((1, 1), (1, 0, 0, -GREAT), 400)
        self.assertEqual(len(told), 401)
        self.assertEqual(told[399], GREAT ** 133)
        self.assertEqual(told[400], GREAT ** 133)
        self.assertEqual(heads((1, 1), (1, 0, 0, -GREAT), 399), told[:400])

    def test_of_what_was_told(self):
        bottom = (1,)
        for step in range(60):
            bottom = poly_times(bottom, (1, -1))
        self.assertEqual(heads(bottom, bottom, 100), [1] + [0] * 100)
        self.assertEqual(heads(poly_times(bottom, bottom), bottom, 70), list(bottom) + [0] * 10)

    def test_no_bottom(self):
        for bottom in ((), (0, 1), (-1,), (2,), (-1, 1), (2, 1), (0, 0, 1), (GREAT,), (-GREAT, 1)):
            for bound in (0, 1, 30, 400):
                for top in ((), (1,), (2, 1)):
                    self.assertRaises(NoBottom, heads, top, bottom, bound)

    def test_no_bottom_ahead_of_no_sum(self):
        for bottom in ((), (0, 1), (-1,), (2, 1)):
            for bound in BEYOND:
                self.assertRaises(NoBottom, heads, (1,), bottom, bound)

    def test_no_sum(self):
        for bound in BEYOND:
            for bottom in self.BOTTOMS:
                self.assertRaises(NoSum, heads, (1,), bottom, bound)
                self.assertRaises(NoSum, heads, (), bottom, bound)

    def test_the_told_list_is_a_new_one(self):
        told = heads((2, 3), (1,), 3)
        later = heads((2, 3), (1,), 3)
        told[0] = "spoilt"
        told.append("spoilt")
        self.assertEqual(later, [2, 3, 0, 0])
        self.assertEqual(heads((2, 3), (1,), 3), [2, 3, 0, 0])


if __name__ == "__main__":
    unittest.main()
