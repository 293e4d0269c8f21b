"""[6] and [7], and [2] and [3] as far as they touch heaps."""

import itertools
import unittest
from collections import Counter

from shutpairs.errors import NoHeap, NotIn
from shutpairs.heaps import heap_of, joined, lies_in, met, often, put, sum_of, taken

LEAST_OF_SIXTY_FIGURES = 10 ** 59
GREATEST_OF_SIXTY_FIGURES = 10 ** 60 - 1

# Each heap of at most three parts, none greater than 3.
SMALL = [
    parts
    for length in range(4)
    for parts in itertools.combinations_with_replacement((3, 2, 1), length)
]


def heap_from(times):
    return tuple(sorted(times.elements(), reverse=True))


class Made(unittest.TestCase):
    def test_in_any_order_of_a_list_and_of_a_tuple(self):
        for parts in itertools.permutations((5, 3, 3, 1)):
            self.assertEqual(heap_of(list(parts)), (5, 3, 3, 1))
            self.assertEqual(heap_of(parts), (5, 3, 3, 1))

    def test_is_a_tuple(self):
        self.assertIs(type(heap_of([2, 1])), tuple)
        self.assertIs(type(heap_of((1, 2))), tuple)
        self.assertIs(type(heap_of([])), tuple)

    def test_of_none(self):
        self.assertEqual(heap_of([]), ())
        self.assertEqual(heap_of(()), ())

    def test_of_one(self):
        self.assertEqual(heap_of([1]), (1,))
        self.assertEqual(heap_of((7,)), (7,))

    def test_alike_parts_all_stay(self):
        self.assertEqual(heap_of([2, 2, 2]), (2, 2, 2))

    def test_by_number_and_not_by_figures(self):
        self.assertEqual(heap_of([9, 10, 100, 11]), (100, 11, 10, 9))

    def test_of_sixty_parts(self):
        self.assertEqual(heap_of(list(range(1, 61))), tuple(range(60, 0, -1)))
        self.assertEqual(heap_of((1,) * 60), (1,) * 60)

    def test_of_parts_of_sixty_figures(self):
        low, high = LEAST_OF_SIXTY_FIGURES, GREATEST_OF_SIXTY_FIGURES
        self.assertEqual(heap_of([low, 1, high, low + 1]), (high, low + 1, low, 1))

    def test_list_handed_in_stays(self):
        parts = [1, 3, 2]
        heap_of(parts)
        self.assertEqual(parts, [1, 3, 2])

    def test_later_change_of_the_list_changes_nothing(self):
        parts = [1, 3, 2]
        heap = heap_of(parts)
        parts.append(9)
        parts[0] = 8
        self.assertEqual(heap, (3, 2, 1))

    def test_a_heap_makes_itself(self):
        for heap in SMALL:
            self.assertEqual(heap_of(heap), heap)


class RefusedParts(unittest.TestCase):
    def refused(self, parts, first):
        for handed in (list(parts), tuple(parts)):
            kept = list(handed)
            with self.assertRaises(NoHeap) as refusal:
                heap_of(handed)
            self.assertEqual(refusal.exception.part, first)
            self.assertEqual(list(handed), kept)

    def test_nought_and_below(self):
        self.refused([0], 0)
        self.refused([-1], -1)
        self.refused([-GREATEST_OF_SIXTY_FIGURES], -GREATEST_OF_SIXTY_FIGURES)

    def test_among_others(self):
        self.refused([3, 0, 2], 0)
        self.refused([3, 2, -5], -5)
        self.refused([-5, 3, 2], -5)

    def test_first_one_though_a_lesser_one_stands_behind_it(self):
        self.refused([4, -1, -7, 2], -1)
        self.refused([0, -1], 0)

    def test_first_one_though_a_greater_one_stands_behind_it(self):
        self.refused([4, -7, -1, 0], -7)


class SumAndOften(unittest.TestCase):
    def test_sum(self):
        self.assertEqual(sum_of(()), 0)
        self.assertEqual(sum_of((4,)), 4)
        self.assertEqual(sum_of((4, 2, 2, 1)), 9)

    def test_sum_of_sixty_parts_of_sixty_figures(self):
        heap = (GREATEST_OF_SIXTY_FIGURES,) * 60
        self.assertEqual(sum_of(heap), 60 * GREATEST_OF_SIXTY_FIGURES)

    def test_often(self):
        heap = (5, 2, 2, 2, 1)
        self.assertEqual([often(heap, part) for part in range(1, 7)], [1, 3, 0, 0, 1, 0])

    def test_often_of_nought_and_below(self):
        self.assertEqual(often((5, 2, 2), 0), 0)
        self.assertEqual(often((5, 2, 2), -2), 0)
        self.assertEqual(often((1,), -1), 0)

    def test_often_in_none(self):
        for part in (-1, 0, 1, 2):
            self.assertEqual(often((), part), 0)

    def test_often_of_great_parts(self):
        high = GREATEST_OF_SIXTY_FIGURES
        self.assertEqual(often((high, high, high - 1), high), 2)
        self.assertEqual(often((high, high, high - 1), high - 2), 0)
        self.assertEqual(often((1,) * 60, 1), 60)


class LiesIn(unittest.TestCase):
    def test_by_how_often_each_part_stands_in_both(self):
        self.assertIs(lies_in((2, 1), (3, 2, 2, 1)), True)
        self.assertIs(lies_in((2, 2), (3, 2, 2, 1)), True)
        self.assertIs(lies_in((2, 2, 2), (3, 2, 2, 1)), False)
        self.assertIs(lies_in((4,), (3, 2, 2, 1)), False)
        self.assertIs(lies_in((3, 1), (3, 2, 2, 1)), True)

    def test_not_by_greater_parts(self):
        self.assertIs(lies_in((1,), (2,)), False)
        self.assertIs(lies_in((1, 1), (2,)), False)
        self.assertIs(lies_in((2,), (1, 1)), False)

    def test_each_in_itself_and_none_in_each(self):
        for heap in SMALL:
            self.assertIs(lies_in(heap, heap), True)
            self.assertIs(lies_in((), heap), True)
            self.assertIs(lies_in(heap, ()), heap == ())

    def test_all_small_ones(self):
        for one, other in itertools.product(SMALL, SMALL):
            self.assertIs(lies_in(one, other), not Counter(one) - Counter(other), (one, other))

    def test_sixty_parts(self):
        self.assertIs(lies_in((1,) * 60, (2,) + (1,) * 59), False)
        self.assertIs(lies_in((1,) * 59, (2,) + (1,) * 59), True)


class Joined(unittest.TestCase):
    def test_of_none(self):
        self.assertEqual(joined([]), ())
        self.assertEqual(joined(()), ())

    def test_of_one(self):
        for heap in SMALL:
            self.assertEqual(joined([heap]), heap)
            self.assertEqual(joined((heap,)), heap)

    def test_of_a_list_and_of_a_tuple(self):
        heaps = [(3, 1, 1), (2, 2, 1), (3, 3)]
        self.assertEqual(joined(heaps), (3, 3, 2, 2, 1, 1))
        self.assertEqual(joined(tuple(heaps)), (3, 3, 2, 2, 1, 1))

    def test_alike_ones_count_once(self):
        self.assertEqual(joined([(2, 1), (2, 1)]), (2, 1))

    def test_without_parts_among_them(self):
        self.assertEqual(joined([(), (2, 1), ()]), (2, 1))
        self.assertEqual(joined([(), ()]), ())

    def test_all_small_ones(self):
        for one, other in itertools.product(SMALL, SMALL):
            self.assertEqual(joined([one, other]), heap_from(Counter(one) | Counter(other)))

    def test_three_small_ones(self):
        for heaps in itertools.combinations(SMALL, 3):
            wanted = Counter(heaps[0]) | Counter(heaps[1]) | Counter(heaps[2])
            self.assertEqual(joined(heaps), heap_from(wanted))

    def test_great_ones(self):
        high = GREATEST_OF_SIXTY_FIGURES
        self.assertEqual(joined([(high,), (1,) * 60, (high, high)]), (high, high) + (1,) * 60)

    def test_list_handed_in_stays(self):
        heaps = [(1,), (3, 2)]
        told = joined(heaps)
        self.assertEqual(heaps, [(1,), (3, 2)])
        heaps.append((9,))
        self.assertEqual(told, (3, 2, 1))
        self.assertIs(type(told), tuple)


class Met(unittest.TestCase):
    def test_of_one(self):
        for heap in SMALL:
            self.assertEqual(met([heap]), heap)
            self.assertEqual(met((heap,)), heap)

    def test_of_a_list_and_of_a_tuple(self):
        heaps = [(3, 2, 2, 1), (2, 2, 2, 1, 1), (4, 2, 2, 1)]
        self.assertEqual(met(heaps), (2, 2, 1))
        self.assertEqual(met(tuple(heaps)), (2, 2, 1))

    def test_with_nothing_in_common(self):
        self.assertEqual(met([(3, 2), (1, 1)]), ())
        self.assertEqual(met([(3, 2), (), (3, 2)]), ())
        self.assertEqual(met([(2, 1), (3, 2), (3, 1)]), ())

    def test_all_small_ones(self):
        for one, other in itertools.product(SMALL, SMALL):
            self.assertEqual(met([one, other]), heap_from(Counter(one) & Counter(other)))

    def test_three_small_ones(self):
        for heaps in itertools.combinations(SMALL, 3):
            wanted = Counter(heaps[0]) & Counter(heaps[1]) & Counter(heaps[2])
            self.assertEqual(met(heaps), heap_from(wanted))

    def test_list_handed_in_stays(self):
        heaps = [(2, 1), (3, 2)]
        told = met(heaps)
        self.assertEqual(heaps, [(2, 1), (3, 2)])
        heaps.append(())
        self.assertEqual(told, (2,))
        self.assertIs(type(told), tuple)


class PutAndTaken(unittest.TestCase):
    def test_put_either_way_about(self):
        self.assertEqual(put((4, 2), (3, 2, 1)), (4, 3, 2, 2, 1))
        self.assertEqual(put((3, 2, 1), (4, 2)), (4, 3, 2, 2, 1))

    def test_put_with_none(self):
        self.assertEqual(put((), ()), ())
        self.assertEqual(put((2, 1), ()), (2, 1))
        self.assertEqual(put((), (2, 1)), (2, 1))

    def test_put_all_small_ones(self):
        for one, other in itertools.product(SMALL, SMALL):
            self.assertEqual(put(one, other), heap_from(Counter(one) + Counter(other)))

    def test_put_sixty_to_sixty(self):
        self.assertEqual(put((1,) * 60, (2,) * 60), (2,) * 60 + (1,) * 60)

    def test_taken_is_the_first_out_of_the_second(self):
        self.assertEqual(taken((3, 1), (3, 2, 1, 1)), (2, 1))
        self.assertEqual(taken((2,), (2, 2, 2)), (2, 2))

    def test_taken_with_none(self):
        self.assertEqual(taken((), ()), ())
        self.assertEqual(taken((), (2, 1)), (2, 1))
        self.assertEqual(taken((2, 1), (2, 1)), ())

    def test_taken_of_a_part_that_stands_there_less_often(self):
        with self.assertRaises(NotIn):
            taken((2, 2), (3, 2, 1))

    def test_taken_of_a_part_that_does_not_stand_there(self):
        with self.assertRaises(NotIn):
            taken((4,), (3, 2, 1))
        with self.assertRaises(NotIn):
            taken((1,), ())
        with self.assertRaises(NotIn):
            taken((3, 2, 1), (3, 2))

    def test_taken_all_small_ones(self):
        for one, other in itertools.product(SMALL, SMALL):
            if Counter(one) - Counter(other):
                with self.assertRaises(NotIn):
                    taken(one, other)
            else:
                self.assertEqual(taken(one, other), heap_from(Counter(other) - Counter(one)))

    def test_taken_undoes_put(self):
        for one, other in itertools.product(SMALL, SMALL):
            self.assertEqual(taken(one, put(one, other)), other)

    def test_great_parts(self):
        high = GREATEST_OF_SIXTY_FIGURES
        self.assertEqual(taken((high, 1), (high, high, 1)), (high,))
        with self.assertRaises(NotIn):
            taken((high - 1,), (high, high, 1))


if __name__ == "__main__":
    unittest.main()
