"""[27], and [5] as far as it speaks of a fraction of two polynomials: stores; [3] and [4] of these."""

import itertools
import unittest

from shutpairs.errors import NoSum
from shutpairs.polys import heads, poly_times
from shutpairs.stores import bottom_of, is_of_store, numbers_of, top_of

GREAT = 10 ** 60 - 1
BEYOND = (-1, -2, 401, 402, GREAT, -GREAT)

STORES = [
    (),
    ((1, None),),
    ((1, 0),),
    ((3, 2),),
    ((24, 9),),
    ((24, None),),
    ((2, None), (1, 1)),
    ((1, 1), (2, None)),
    ((5, 0), (3, None), (4, 1)),
    ((1, 1), (2, 1), (3, 1), (4, 1), (5, 1), (6, 1)),
    ((6, None), (5, None), (4, None), (3, None), (2, None), (1, None)),
    ((4, 9), (1, 3), (7, None), (2, 0), (24, 2), (3, 5)),
    ((24, 9), (23, 9), (22, 9), (21, 9), (20, 9), (19, 9)),
]


def partings_by_definition(n, greatest):
    if n == 0:
        return [()]
    firsts = range(min(n, greatest), 0, -1)
    return [(first,) + rest for first in firsts for rest in partings_by_definition(n - first, first)]


def is_of_store_by_definition(store, heap):
    for part in heap:
        rows = [most for fellow, most in store if fellow == part]
        if not rows or (rows[0] is not None and heap.count(part) > rows[0]):
            return False
    return True


def number_by_definition(store, n):
    """How many ways there are to make n: each row's part none to its most times."""
    if not store:
        return 1 if n == 0 else 0
    part, most = store[0]
    reach = n // part if most is None else min(most, n // part)
    return sum(number_by_definition(store[1:], n - part * times) for times in range(reach + 1))


def one_less_a_power(power):
    return (1,) + (0,) * (power - 1) + (-1,)


class OfTheStore(unittest.TestCase):
    def test_told(self):
        store = ((5, 2), (1, None), (3, 0))
        for heap in ((), (5,), (5, 5), (1,), (1,) * 60, (5, 5) + (1,) * 58):
            self.assertIs(is_of_store(store, heap), True)
        for heap in ((5, 5, 5), (3,), (3, 1), (5, 3), (2,), (5, 2, 1), (6,), (GREAT,), (GREAT, 5, 1), (5, 5, 5, 1)):
            self.assertIs(is_of_store(store, heap), False)

    def test_the_most_of_each_row(self):
        for most in range(10):
            self.assertIs(is_of_store(((2, most), (7, None)), (7,) + (2,) * most), True)
            self.assertIs(is_of_store(((2, most), (7, None)), (7,) + (2,) * (most + 1)), False)

    def test_of_no_rows(self):
        self.assertIs(is_of_store((), ()), True)
        self.assertIs(is_of_store((), (1,)), False)

    def test_each_parting_in_each_order_of_the_rows(self):
        heaps = [heap for n in range(11) for heap in partings_by_definition(n, n)]
        for rows in (((1, 1), (2, None), (3, 2)), ((2, 0), (5, None), (4, 1)), ((1, None), (10, 0), (9, 9))):
            for store in itertools.permutations(rows):
                for heap in heaps:
                    self.assertIs(is_of_store(store, heap), is_of_store_by_definition(store, heap))


class TopAndBottom(unittest.TestCase):
    def test_told(self):
        self.assertEqual(bottom_of(()), (1,))
        self.assertEqual(top_of(()), (1,))
        self.assertEqual(bottom_of(((3, 2),)), (1, 0, 0, -1))
        self.assertEqual(top_of(((3, 2),)), (1,) + (0,) * 8 + (-1,))
        self.assertEqual(top_of(((3, None), (2, None))), (1,))
        self.assertEqual(bottom_of(((2, None), (1, 1))), (1, -1, -1, 1))
        self.assertEqual(top_of(((2, None), (1, 1))), (1, 0, -1))

    def test_nothing_is_divided_out(self):
        self.assertEqual(top_of(((1, 0),)), (1, -1))
        self.assertEqual(bottom_of(((1, 0),)), (1, -1))
        self.assertEqual(top_of(((2, 0), (1, 1))), (1, 0, -2, 0, 1))
        self.assertEqual(bottom_of(((2, 0), (1, 1))), (1, -1, -1, 1))

    def test_they_are_products(self):
        for store in STORES:
            bottom = (1,)
            top = (1,)
            for part, most in store:
                bottom = poly_times(bottom, one_less_a_power(part))
                if most is not None:
                    top = poly_times(top, one_less_a_power(part * (most + 1)))
            self.assertEqual(bottom_of(store), bottom)
            self.assertEqual(top_of(store), top)
            self.assertIs(type(bottom_of(store)), tuple)
            self.assertIs(type(top_of(store)), tuple)

    def test_in_each_order_of_the_rows(self):
        rows = ((1, 1), (2, None), (5, 9), (24, 0))
        for store in itertools.permutations(rows):
            self.assertEqual(bottom_of(store), bottom_of(rows))
            self.assertEqual(top_of(store), top_of(rows))


class Numbers(unittest.TestCase):
    def test_told(self):
        self.assertEqual(numbers_of((), 3), [1, 0, 0, 0])
        self.assertEqual(numbers_of(((1, None),), 3), [1, 1, 1, 1])
        self.assertEqual(numbers_of(((2, 1),), 5), [1, 0, 1, 0, 0, 0])
        self.assertEqual(numbers_of(((1, 0), (2, None)), 5), [1, 0, 1, 0, 1, 0])
        self.assertEqual(numbers_of(((1, 1), (2, 1), (3, 1)), 7), [1, 1, 1, 2, 1, 1, 1, 0])
        self.assertEqual(numbers_of(((3, None),), 0), [1])

    def test_against_the_partings_one_by_one(self):
        heaps = [partings_by_definition(n, n) for n in range(17)]
        for store in STORES:
            wanted = [sum(1 for heap in row if is_of_store_by_definition(store, heap)) for row in heaps]
            for bound in range(17):
                told = numbers_of(store, bound)
                self.assertEqual(told, wanted[:bound + 1])
                self.assertIs(type(told), list)

    def test_against_the_rows_one_by_one(self):
        for store in STORES:
            self.assertEqual(numbers_of(store, 40), [number_by_definition(store, n) for n in range(41)])

    def test_they_are_the_heads_of_top_and_bottom(self):
        for store in STORES:
            for bound in (0, 1, 30, 399, 400):
                told = numbers_of(store, bound)
                self.assertEqual(len(told), bound + 1)
                self.assertEqual(told, heads(top_of(store), bottom_of(store), bound))

    def test_in_each_order_of_the_rows(self):
        rows = ((1, 1), (2, None), (5, 9), (24, 0))
        for store in itertools.permutations(rows):
            self.assertEqual(numbers_of(store, 60), numbers_of(rows, 60))

    def test_no_sum(self):
        for bound in BEYOND:
            for store in STORES:
                self.assertRaises(NoSum, numbers_of, store, bound)

    def test_the_told_list_is_a_new_one(self):
        store = ((1, 1), (2, None))
        told = numbers_of(store, 4)
        later = numbers_of(store, 4)
        told[0] = "spoilt"
        told.append("spoilt")
        self.assertEqual(later, [1, 1, 1, 1, 1])
        self.assertEqual(numbers_of(store, 4), [1, 1, 1, 1, 1])
        self.assertEqual(store, ((1, 1), (2, None)))


if __name__ == "__main__":
    unittest.main()
