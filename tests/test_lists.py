"""[12] and [13]: the partings of a number, those that keep a rule, their places; [3] and [4] of these."""

import unittest
from collections import Counter

from shutpairs.errors import NoPlace, NoSum, NotKept
from shutpairs.lists import by_parts, kept_of, partings_of, place_of, told_at

GREATEST_OF_SIXTY_FIGURES = 10 ** 60 - 1
LEAST_OF_SIXTY_FIGURES = 10 ** 59

# How many partings each number from 0 to 24 has.
HOW_MANY = [
    1, 1, 2, 3, 5, 7, 11, 15, 22, 30, 42, 56, 77, 101, 135, 176, 231, 297, 385, 490, 627, 792, 1002, 1255, 1575,
]
RULES = [
    (),
    ((),),
    ((1,),),
    ((2,), (1, 1)),
    ((3, 1), (3, 1)),
    ((1, 1), (2, 2), (3, 3)),
    ((2,), (4,), (6,)),
    ((2, 1), (3,), (1, 1, 1, 1), (5, 5)),
    ((4, 1), (), (2,)),
    ((1, 1), (2, 2), (3, 3), (4, 4), (5, 5), (6, 6)),
    ((GREATEST_OF_SIXTY_FIGURES,), (LEAST_OF_SIXTY_FIGURES, 1), (5,)),
]
NO_SUMS = [
    -1, 25, -2, 26, 400,
    GREATEST_OF_SIXTY_FIGURES, -GREATEST_OF_SIXTY_FIGURES, LEAST_OF_SIXTY_FIGURES, -LEAST_OF_SIXTY_FIGURES,
]


def lists_of_partings(most):
    lists = [[()]]
    for n in range(1, most + 1):
        grown = set()
        for heap in lists[-1]:
            grown.add(heap + (1,))
            for k in range(len(heap)):
                parts = list(heap)
                parts[k] += 1
                grown.add(tuple(sorted(parts, reverse=True)))
        lists.append(sorted(grown, reverse=True))
    return lists


PARTINGS = lists_of_partings(24)


def is_kept(rule, heap):
    return all(Counter(shut) - Counter(heap) for shut in rule)


def kept_in(rule, n):
    return [heap for heap in PARTINGS[n] if is_kept(rule, heap)]


class Partings(unittest.TestCase):
    def test_of_the_least_ones(self):
        self.assertEqual(partings_of(0), [()])
        self.assertEqual(partings_of(1), [(1,)])
        self.assertEqual(partings_of(2), [(2,), (1, 1)])
        self.assertEqual(partings_of(4), [(4,), (3, 1), (2, 2), (2, 1, 1), (1, 1, 1, 1)])
        self.assertEqual(
            partings_of(6),
            [
                (6,), (5, 1), (4, 2), (4, 1, 1), (3, 3), (3, 2, 1), (3, 1, 1, 1),
                (2, 2, 2), (2, 2, 1, 1), (2, 1, 1, 1, 1), (1, 1, 1, 1, 1, 1),
            ],
        )

    def test_of_each_number(self):
        for n in range(25):
            told = partings_of(n)
            self.assertEqual(len(told), HOW_MANY[n])
            self.assertEqual(told, PARTINGS[n])
            self.assertEqual(told, sorted(told, reverse=True))
            self.assertIs(type(told), list)
            self.assertTrue(all(type(heap) is tuple for heap in told))

    def test_refused(self):
        for n in NO_SUMS:
            self.assertRaises(NoSum, partings_of, n)

    def test_a_told_list_that_is_spoilt_changes_no_later_answer(self):
        for n in (0, 1, 4, 24):
            told = partings_of(n)
            told[0] = "spoilt"
            told.pop()
            self.assertEqual(partings_of(n), PARTINGS[n])
            self.assertEqual(kept_of((), n), PARTINGS[n])
            self.assertEqual(told_at((), n, 0), PARTINGS[n][0])

    def test_no_later_call_changes_a_told_list(self):
        told = partings_of(4)
        partings_of(5)
        partings_of(4)
        kept_of(((1,),), 4)
        self.assertEqual(told, PARTINGS[4])


class Kept(unittest.TestCase):
    def test_told(self):
        self.assertEqual(kept_of(((2,), (1, 1)), 7), [(7,), (6, 1), (4, 3), (3, 3, 1)])
        self.assertEqual(kept_of(((1, 1),), 4), [(4,), (3, 1), (2, 2)])
        self.assertEqual(kept_of(((2,),), 4), [(4,), (3, 1), (1, 1, 1, 1)])

    def test_each_rule_of_each_number(self):
        for rule in RULES:
            for n in range(17):
                with self.subTest(rule=rule, n=n):
                    self.assertEqual(kept_of(rule, n), kept_in(rule, n))
                    self.assertIs(type(kept_of(rule, n)), list)
            self.assertEqual(kept_of(rule, 24), kept_in(rule, 24))

    def test_the_rule_without_heaps(self):
        for n in range(25):
            self.assertEqual(kept_of((), n), PARTINGS[n])

    def test_one_that_has_the_heap_without_parts(self):
        for n in range(25):
            self.assertEqual(kept_of(((),), n), [])
            self.assertEqual(kept_of(((30,), ()), n), [])

    def test_heaps_with_parts_of_sixty_figures(self):
        rule = ((GREATEST_OF_SIXTY_FIGURES,), (LEAST_OF_SIXTY_FIGURES,) * 60)
        for n in range(25):
            self.assertEqual(kept_of(rule, n), PARTINGS[n])

    def test_refused(self):
        for rule in RULES:
            for n in NO_SUMS:
                self.assertRaises(NoSum, kept_of, rule, n)

    def test_a_told_list_that_is_spoilt_changes_no_later_answer(self):
        for rule in RULES:
            wanted = kept_in(rule, 6)
            told = kept_of(rule, 6)
            told.append("spoilt")
            told[0] = "spoilt"
            self.assertEqual(kept_of(rule, 6), wanted)
            self.assertEqual(by_parts(rule, 6), [len([h for h in wanted if len(h) == k]) for k in range(7)])
            self.assertEqual(partings_of(6), PARTINGS[6])

    def test_no_later_call_changes_a_told_list(self):
        told = kept_of(((1, 1),), 4)
        kept_of(((1, 1),), 4)
        kept_of(((1, 1),), 5)
        self.assertEqual(told, [(4,), (3, 1), (2, 2)])


class ByParts(unittest.TestCase):
    def test_told(self):
        self.assertEqual(by_parts((), 0), [1])
        self.assertEqual(by_parts((), 1), [0, 1])
        self.assertEqual(by_parts((), 5), [0, 1, 2, 2, 1, 1])
        self.assertEqual(by_parts(((2,),), 4), [0, 1, 1, 0, 1])
        self.assertEqual(by_parts(((1, 1),), 4), [0, 1, 2, 0, 0])
        self.assertEqual(by_parts(((4,),), 4), [0, 0, 2, 1, 1])
        self.assertEqual(by_parts(((),), 0), [0])
        self.assertEqual(by_parts(((),), 3), [0, 0, 0, 0])
        self.assertEqual(by_parts(((1,),), 1), [0, 0])

    def test_each_rule_of_each_number(self):
        for rule in RULES:
            for n in list(range(15)) + [24]:
                lengths = Counter([len(heap) for heap in kept_in(rule, n)])
                with self.subTest(rule=rule, n=n):
                    told = by_parts(rule, n)
                    self.assertEqual(told, [lengths[k] for k in range(n + 1)])
                    self.assertIs(type(told), list)

    def test_as_many_numbers_as_the_number_and_one_more(self):
        for n in range(25):
            self.assertEqual(len(by_parts((), n)), n + 1)
            self.assertEqual(len(by_parts(((),), n)), n + 1)

    def test_refused(self):
        for rule in RULES:
            for n in NO_SUMS:
                self.assertRaises(NoSum, by_parts, rule, n)

    def test_a_told_list_is_the_askers_own(self):
        told = by_parts((), 5)
        told[0] = 99
        told.append(7)
        self.assertEqual(by_parts((), 5), [0, 1, 2, 2, 1, 1])
        kept = by_parts(((),), 2)
        by_parts((), 2)
        by_parts(((),), 2)
        self.assertEqual(kept, [0, 0, 0])


class Places(unittest.TestCase):
    def test_told(self):
        self.assertEqual(place_of((), ()), 0)
        self.assertEqual(told_at((), 0, 0), ())
        self.assertEqual(place_of((), (2, 1, 1)), 3)
        self.assertEqual(told_at((), 4, 3), (2, 1, 1))
        self.assertEqual(place_of(((2,),), (1, 1, 1, 1)), 2)
        self.assertEqual(told_at(((2,),), 4, 2), (1, 1, 1, 1))

    def test_there_and_back(self):
        for rule in RULES:
            for n in range(13):
                for place, heap in enumerate(kept_in(rule, n)):
                    with self.subTest(rule=rule, heap=heap):
                        self.assertEqual(place_of(rule, heap), place)
                        self.assertEqual(told_at(rule, n, place), heap)
                        self.assertIs(type(told_at(rule, n, place)), tuple)

    def test_there_and_back_of_the_greatest_sum(self):
        for rule in RULES:
            heaps = kept_in(rule, 24)
            for place in range(0, len(heaps), 150):
                self.assertEqual(place_of(rule, heaps[place]), place)
                self.assertEqual(told_at(rule, 24, place), heaps[place])
            if heaps:
                self.assertEqual(place_of(rule, heaps[-1]), len(heaps) - 1)
                self.assertEqual(told_at(rule, 24, len(heaps) - 1), heaps[-1])


class PlaceRefused(unittest.TestCase):
    def test_a_sum_above_24(self):
        greatest = GREATEST_OF_SIXTY_FIGURES
        for heap in ((25,), (24, 1), (1,) * 25, (5,) * 5, (greatest,), (greatest,) * 60, (1,) * 60):
            for rule in RULES:
                self.assertRaises(NoSum, place_of, rule, heap)

    def test_a_sum_above_24_that_does_not_keep_the_rule(self):
        for rule in (((),), ((25,),), ((20,), (5,)), ((20, 5),)):
            for heap in ((25,), (20, 5), (20, 20)):
                self.assertRaises(NoSum, place_of, rule, heap)

    def test_not_kept(self):
        cases = [
            (((),), (), 0),
            (((9,), ()), (), 1),
            (((1,),), (1,), 0),
            (((4,), (2, 1), (3,), (2,)), (3, 2, 1), 1),
            (((4,), (2, 1), (3,), (2,)), (2, 2), 3),
            (((5,), (6,), (7,), (8,), (9,), (1,)), (4, 1), 5),
            (((24,), (24,)), (24,), 0),
            (((2,), (1,)), (23, 1), 1),
        ]
        for rule, heap, number in cases:
            with self.subTest(rule=rule, heap=heap):
                with self.assertRaises(NotKept) as refusal:
                    place_of(rule, heap)
                self.assertEqual(refusal.exception.number, number)

    def test_not_kept_by_the_least_number(self):
        for rule in RULES:
            for n in range(9):
                for heap in PARTINGS[n]:
                    inside = [k for k, shut in enumerate(rule) if not Counter(shut) - Counter(heap)]
                    if inside:
                        with self.assertRaises(NotKept) as refusal:
                            place_of(rule, heap)
                        self.assertEqual(refusal.exception.number, inside[0])


class ToldAtRefused(unittest.TestCase):
    def test_no_sum(self):
        for rule in RULES:
            for n in NO_SUMS:
                self.assertRaises(NoSum, told_at, rule, n, 0)

    def test_no_sum_with_a_place_that_none_has(self):
        for rule in ((), ((),), ((1,),)):
            for n in NO_SUMS:
                for place in (-1, 10000, GREATEST_OF_SIXTY_FIGURES, -GREATEST_OF_SIXTY_FIGURES):
                    self.assertRaises(NoSum, told_at, rule, n, place)

    def test_no_place(self):
        for rule in RULES:
            for n in (0, 1, 2, 7, 24):
                behind = len(kept_in(rule, n))
                great = GREATEST_OF_SIXTY_FIGURES
                for place in (-1, -2, -behind, -behind - 1, behind, behind + 1, great, -great):
                    if place != 0 or behind == 0:
                        with self.subTest(rule=rule, n=n, place=place):
                            self.assertRaises(NoPlace, told_at, rule, n, place)

    def test_no_place_where_none_keeps_the_rule(self):
        for n in range(25):
            self.assertRaises(NoPlace, told_at, ((),), n, 0)


if __name__ == "__main__":
    unittest.main()
