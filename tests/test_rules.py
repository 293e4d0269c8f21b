"""[10] and [11]: rules made, and what keeps them; [2], [3] and [4] as far as they touch these."""

import copy
import itertools
import unittest
from collections import Counter

from shutpairs.errors import NoHeap, NoRule
from shutpairs.rules import all_in, first_in, keeps, rule_of

GREATEST_OF_SIXTY_FIGURES = 10 ** 60 - 1

# Each heap of at most three parts, none greater than 3.
SMALL = [
    parts
    for length in range(4)
    for parts in itertools.combinations_with_replacement((3, 2, 1), length)
]
# What is handed in, and the rule that is made of it.
MADE = [
    ([], ()),
    ([[]], ((),)),
    ([[1]], ((1,),)),
    ([[1, 3, 2]], ((3, 2, 1),)),
    ([[1, 2], [5], [3, 3, 4]], ((2, 1), (5,), (4, 3, 3))),
    ([[], [2], []], ((), (2,), ())),
    ([[1, 2], [2, 1], [1, 2]], ((2, 1), (2, 1), (2, 1))),
    ([[1], [1, 1], [1, 1, 2], []], ((1,), (1, 1), (2, 1, 1), ())),
    ([[6], [5], [4], [3], [2], [1]], ((6,), (5,), (4,), (3,), (2,), (1,))),
    ([[1], [2], [3], [4], [5], [6, 7]], ((1,), (2,), (3,), (4,), (5,), (7, 6))),
    ([[], [], [], [], [], []], ((), (), (), (), (), ())),
    ([[1] * 60] * 6, ((1,) * 60,) * 6),
    ([[1, GREATEST_OF_SIXTY_FIGURES], [9, 10]], ((GREATEST_OF_SIXTY_FIGURES, 1), (10, 9))),
]


def lies(one, other):
    return not Counter(one) - Counter(other)


def forms_of(heaps):
    tuples = [tuple(parts) for parts in heaps]
    lists = [list(parts) for parts in heaps]
    mixed = [list(parts) if place % 2 else tuple(parts) for place, parts in enumerate(heaps)]
    return [lists, tuples, mixed, tuple(lists), tuple(tuples), tuple(mixed)]


class Made(unittest.TestCase):
    def test_of_lists_and_tuples_of_lists_and_tuples(self):
        for heaps, rule in MADE:
            for handed in forms_of(heaps):
                with self.subTest(handed=handed):
                    told = rule_of(handed)
                    self.assertEqual(told, rule)
                    self.assertIs(type(told), tuple)
                    self.assertTrue(all(type(heap) is tuple for heap in told))

    def test_a_rule_makes_itself(self):
        for heaps, rule in MADE:
            self.assertEqual(rule_of(rule), rule)

    def test_what_was_handed_in_stays(self):
        for heaps, rule in MADE:
            for handed in forms_of(heaps):
                kept = copy.deepcopy(handed)
                rule_of(handed)
                self.assertEqual(handed, kept)

    def test_later_change_of_a_list_changes_nothing(self):
        handed = [[1, 3], [2], []]
        rule = rule_of(handed)
        handed[0].append(9)
        handed[1][0] = 7
        handed.append([5])
        handed[2] = [8]
        self.assertEqual(rule, ((3, 1), (2,), ()))


class RefusedAsRule(unittest.TestCase):
    def refused(self, heaps):
        for handed in forms_of(heaps):
            kept = copy.deepcopy(handed)
            with self.subTest(handed=handed):
                self.assertRaises(NoRule, rule_of, handed)
                self.assertEqual(handed, kept)

    def test_seven_and_more(self):
        self.refused([[1], [2], [3], [4], [5], [6], [7]])
        self.refused([[]] * 7)
        self.refused([[1]] * 7)
        self.refused([[1]] * 8)
        self.refused([[2, 1]] * 60)

    def test_seven_of_which_one_makes_no_heap(self):
        for place in range(7):
            for spoilt in ([0], [-1], [3, 0, 2]):
                heaps = [[1], [2], [3], [4], [5], [6], [7]]
                heaps[place] = spoilt
                self.refused(heaps)

    def test_seven_of_which_none_makes_a_heap(self):
        self.refused([[0]] * 7)


class RefusedAsHeap(unittest.TestCase):
    def refused(self, heaps, part):
        for handed in forms_of(heaps):
            kept = copy.deepcopy(handed)
            with self.subTest(handed=handed):
                with self.assertRaises(NoHeap) as refusal:
                    rule_of(handed)
                self.assertEqual(refusal.exception.part, part)
                self.assertEqual(handed, kept)

    def test_one_that_makes_no_heap(self):
        self.refused([[0]], 0)
        self.refused([[-4]], -4)
        self.refused([[-GREATEST_OF_SIXTY_FIGURES]], -GREATEST_OF_SIXTY_FIGURES)

    def test_at_each_place(self):
        for place in range(6):
            heaps = [[1], [2], [3], [4], [5], [6]]
            heaps[place] = [2, -3, 1]
            self.refused(heaps, -3)

    def test_the_first_number_below_1_in_it(self):
        self.refused([[2], [4, -1, -7, 2]], -1)
        self.refused([[2], [4, -7, -1, 0]], -7)
        self.refused([[0, -1]], 0)

    def test_the_first_one_that_makes_no_heap(self):
        self.refused([[2], [1, -2], [-5, 1], [0]], -2)
        self.refused([[2], [1, 1, 1, 0], [-5]], 0)
        self.refused([[], [-9], [-10], [-1], [0], []], -9)


class Keeps(unittest.TestCase):
    def check(self, rule, heap):
        inside = [number for number, shut in enumerate(rule) if lies(shut, heap)]
        with self.subTest(rule=rule, heap=heap):
            self.assertEqual(all_in(rule, heap), inside)
            self.assertIs(type(all_in(rule, heap)), list)
            self.assertEqual(first_in(rule, heap), inside[0] if inside else None)
            self.assertIs(keeps(rule, heap), not inside)

    def test_told(self):
        rule = ((4,), (2, 1), (3,), (2,))
        self.assertEqual(all_in(rule, (3, 2, 1)), [1, 2, 3])
        self.assertEqual(first_in(rule, (3, 2, 1)), 1)
        self.assertIs(keeps(rule, (3, 2, 1)), False)
        self.assertEqual(all_in(rule, (2, 2)), [3])
        self.assertEqual(first_in(rule, (2, 2)), 3)
        self.assertEqual(all_in(rule, (5, 1, 1)), [])
        self.assertIs(first_in(rule, (5, 1, 1)), None)
        self.assertIs(keeps(rule, (5, 1, 1)), True)

    def test_number_0_is_a_number(self):
        self.assertEqual(first_in(((1,), (2,)), (2, 1)), 0)
        self.assertIs(keeps(((1,), (2,)), (1,)), False)

    def test_all_rules_of_two_small_heaps(self):
        for rule in itertools.product(SMALL, repeat=2):
            for heap in ((), (1,), (1, 1), (2, 1), (3, 2, 1), (3, 3, 2), (3, 2, 2, 1, 1)):
                self.check(rule, heap)

    def test_rules_of_many_heaps(self):
        for rule in itertools.combinations(SMALL[:9], 6):
            for heap in ((), (2,), (3, 1), (2, 2, 1), (3, 3, 2, 1)):
                self.check(rule, heap)

    def test_the_rule_without_heaps_is_kept_by_each(self):
        for heap in SMALL + [(GREATEST_OF_SIXTY_FIGURES,), (1,) * 60]:
            self.assertIs(keeps((), heap), True)
            self.assertEqual(all_in((), heap), [])
            self.assertIs(first_in((), heap), None)

    def test_one_that_has_the_heap_without_parts_is_kept_by_none(self):
        for heap in SMALL + [(GREATEST_OF_SIXTY_FIGURES,), (1,) * 60]:
            self.assertIs(keeps(((),), heap), False)
            self.assertEqual(first_in(((9,), ()), heap), 1)
            self.assertEqual(all_in(((9,), (), (8,), ()), heap), [1, 3])
            self.check(((1,), (), (2,)), heap)

    def test_alike_heaps(self):
        rule = ((2,), (1,), (2,), (1,), (2,), (2,))
        self.assertEqual(all_in(rule, (2, 2)), [0, 2, 4, 5])
        self.assertEqual(all_in(rule, (3, 1)), [1, 3])
        self.assertEqual(all_in(rule, (2, 1)), [0, 1, 2, 3, 4, 5])
        self.assertEqual(first_in(rule, (1, 1)), 1)
        self.assertIs(keeps(rule, (3,)), True)

    def test_heaps_with_greater_parts_than_the_heap_has(self):
        rule = ((9,), (4, 1), (GREATEST_OF_SIXTY_FIGURES,), (3, 3))
        self.assertEqual(all_in(rule, (3, 1, 1)), [])
        self.assertIs(keeps(rule, (3, 1, 1)), True)
        self.assertIs(first_in(rule, (3, 1, 1)), None)
        self.assertIs(keeps(rule, ()), True)
        self.assertEqual(all_in(rule, (GREATEST_OF_SIXTY_FIGURES, 3, 3)), [2, 3])

    def test_more_often_than_the_heap_has_it(self):
        self.assertIs(keeps(((1,) * 60,), (1,) * 59), True)
        self.assertIs(keeps(((1,) * 60,), (1,) * 60), False)

    def test_the_told_list_is_a_new_one(self):
        rule = ((1,), (2,))
        told = all_in(rule, (2, 1))
        told.append(5)
        told[0] = 9
        self.assertEqual(all_in(rule, (2, 1)), [0, 1])
        self.assertEqual(first_in(rule, (2, 1)), 0)
        self.assertIs(keeps(rule, (3,)), True)
        none = all_in(rule, (3,))
        none.append(5)
        self.assertEqual(all_in(rule, (3,)), [])

    def test_no_later_call_changes_a_told_list(self):
        told = all_in(((1,), (2,)), (2, 1))
        all_in(((1,), (2,)), (1,))
        all_in(((1,), (2,)), (2, 1))
        self.assertEqual(told, [0, 1])


if __name__ == "__main__":
    unittest.main()
