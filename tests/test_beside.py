"""[17], [18], and [5] as far as rules that match go: two rules side by side; [3] and [4] of these."""

import itertools
import unittest
from collections import Counter

from shutpairs.beside import Beside, first_unlike, sums_of, weights_of
from shutpairs.counts import count_of
from shutpairs.errors import NotSoMany, Unmatched
from shutpairs.lists import kept_of

GREATEST_OF_SIXTY_FIGURES = 10 ** 60 - 1

SIX = ((6,), (5, 1), (4, 4), (3, 1, 1), (2, 2, 2), (2, 1, 1))
RULES = [SIX[:length] for length in range(7)] + [
    ((),),
    ((), (2,), ()),
    ((2, 1), (2, 1), (2, 1)),
    ((1,), (1, 1), (1, 1, 1), (1, 1, 1, 1), (1,), ()),
    ((3, 2, 1), (3, 2), (3, 1), (2, 1), (3, 3), (2, 2, 1)),
    ((GREATEST_OF_SIXTY_FIGURES, 1), (GREATEST_OF_SIXTY_FIGURES,) * 2, (1,) * 60),
    ((),) * 6,
]
MATCHING = [
    ((), ()),
    (((),), ((),)),
    (((1, 1),), ((2,),)),
    (((1, 1), (2, 2), (3, 3)), ((2,), (4,), (6,))),
    (((1, 1), (2, 2), (3, 3), (4, 4), (5, 5), (6, 6)), ((2,), (4,), (6,), (8,), (10,), (12,))),
    (((2, 1), (3, 1)), ((1, 1, 1), (3, 1))),
    (((3, 2, 1), (), (2, 1)), ((3, 3), (), (3,))),
    (((2, 1), (2, 1), (4,)), ((3,), (3,), (2, 2))),
    (((GREATEST_OF_SIXTY_FIGURES,), (1,)), ((GREATEST_OF_SIXTY_FIGURES - 2, 2), (1,))),
]
# Two rules, and the first choice with the two sums that are unlike.
UNLIKE = [
    (((1,),), ((2,),), ((0,), 1, 2)),
    (((2,),), ((1,),), ((0,), 2, 1)),
    (((),), ((1,),), ((0,), 0, 1)),
    (((1,), (5,)), ((1,), (7,)), ((1,), 5, 7)),
    (((2, 1), (3,)), ((2, 1), (2, 1)), ((0, 1), 6, 3)),
    (((3, 1), (9,), (3, 2)), ((3, 1), (9,), (4, 1)), ((0, 2), 6, 8)),
    (((1,), (2, 1), (3, 2)), ((1,), (2, 1), (4, 1)), ((0, 2), 6, 5)),
    (((9,), (3, 1), (3, 2)), ((9,), (3, 1), (4, 1)), ((1, 2), 6, 8)),
    (((1,), (2,), (3,), (4,), (5,), (6,)), ((1,), (2,), (3,), (4,), (5,), (7,)), ((5,), 6, 7)),
    (((2, 1), (3, 1), (3, 2)), ((3,), (4,), (5,)), ((0, 1), 6, 7)),
    (((2, 1), (2, 1), (2, 1)), ((1, 1, 1), (1, 1, 1), (3,)), ((0, 2), 3, 6)),
    # Each two of the heaps have as much in common on both sides; all three have not.
    (((6, 5, 1), (6, 4, 2), (6, 3, 3)), ((6, 5, 1), (6, 4, 2), (5, 4, 2, 1)), ((0, 1, 2), 24, 18)),
]


def choices_by_definition(length):
    numbers = range(length)
    choices = [choice for many in range(length + 1) for choice in itertools.combinations(numbers, many)]
    return sorted(choices, key=lambda choice: sum([2 ** number for number in choice]))


def sum_by_definition(rule, choice):
    most = Counter()
    for number in choice:
        most |= Counter(rule[number])
    return sum(most.elements())


def weight_by_definition(rule, choice):
    weight = 0
    for part in {part for heap in rule for part in heap}:
        for dot in range(1, 61):
            there = tuple([number for number, heap in enumerate(rule) if heap.count(part) >= dot])
            if there == choice:
                weight += part
    return weight


class Sums(unittest.TestCase):
    def test_told(self):
        self.assertEqual(sums_of(()), [((), 0)])
        self.assertEqual(sums_of(((),)), [((), 0), ((0,), 0)])
        self.assertEqual(sums_of(((2, 1), (3, 1))), [((), 0), ((0,), 3), ((1,), 4), ((0, 1), 6)])
        self.assertEqual(sums_of(((2, 2, 1), (2, 1, 1))), [((), 0), ((0,), 5), ((1,), 4), ((0, 1), 6)])
        self.assertEqual(sums_of(((5,), (5,))), [((), 0), ((0,), 5), ((1,), 5), ((0, 1), 5)])

    def test_of_none_to_six_heaps(self):
        for rule in RULES:
            wanted = [(choice, sum_by_definition(rule, choice)) for choice in choices_by_definition(len(rule))]
            with self.subTest(rule=rule):
                told = sums_of(rule)
                self.assertEqual(told, wanted)
                self.assertIs(type(told), list)
                self.assertTrue(all(type(row) is tuple for row in told))

    def test_the_told_list_is_a_new_one(self):
        for rule in RULES:
            wanted = list(sums_of(rule))
            told = sums_of(rule)
            told[0] = "spoilt"
            told.append("spoilt")
            self.assertEqual(sums_of(rule), wanted)
            self.assertIs(first_unlike(rule, rule), None)

    def test_no_later_call_changes_a_told_list(self):
        told = sums_of(((1,),))
        sums_of(((1,),))
        sums_of(SIX)
        self.assertEqual(told, [((), 0), ((0,), 1)])


class Weights(unittest.TestCase):
    def test_told(self):
        self.assertEqual(weights_of(()), [])
        self.assertEqual(weights_of(((),)), [((0,), 0)])
        self.assertEqual(weights_of(((3, 2, 2),)), [((0,), 7)])
        self.assertEqual(weights_of(((2, 1), (3, 1))), [((0,), 2), ((1,), 3), ((0, 1), 1)])
        self.assertEqual(weights_of(((2, 2, 1), (2, 1, 1))), [((0,), 2), ((1,), 1), ((0, 1), 3)])
        self.assertEqual(weights_of(((5,), (5,))), [((0,), 0), ((1,), 0), ((0, 1), 5)])
        self.assertEqual(
            weights_of(((1,), (1, 1), (1, 1, 1, 2))),
            [((0,), 0), ((1,), 0), ((0, 1), 0), ((2,), 3), ((0, 2), 0), ((1, 2), 1), ((0, 1, 2), 1)],
        )

    def test_of_none_to_six_heaps(self):
        for rule in RULES:
            choices = choices_by_definition(len(rule))[1:]
            wanted = [(choice, weight_by_definition(rule, choice)) for choice in choices]
            with self.subTest(rule=rule):
                told = weights_of(rule)
                self.assertEqual(told, wanted)
                self.assertIs(type(told), list)
                self.assertTrue(all(type(row) is tuple for row in told))

    def test_each_sum_is_that_of_the_weights_with_a_number_in_common(self):
        for rule in RULES:
            weights = weights_of(rule)
            for choice, total in sums_of(rule):
                common = [weight for other, weight in weights if set(other) & set(choice)]
                self.assertEqual(sum(common), total)

    def test_the_told_list_is_a_new_one(self):
        for rule in RULES:
            wanted = list(weights_of(rule))
            told = weights_of(rule)
            told.append("spoilt")
            told[0] = "spoilt"
            self.assertEqual(weights_of(rule), wanted)

    def test_no_later_call_changes_a_told_list(self):
        told = weights_of(((1,),))
        weights_of(((1,),))
        weights_of(SIX)
        self.assertEqual(told, [((0,), 1)])


class FirstUnlike(unittest.TestCase):
    def test_none_where_they_match(self):
        for one, other in MATCHING:
            self.assertIs(first_unlike(one, other), None)
            self.assertIs(first_unlike(other, one), None)

    def test_each_rule_matches_itself(self):
        for rule in RULES:
            self.assertIs(first_unlike(rule, rule), None)

    def test_told(self):
        for one, other, wanted in UNLIKE:
            with self.subTest(one=one, other=other):
                self.assertEqual(first_unlike(one, other), wanted)
                self.assertIs(type(first_unlike(one, other)), tuple)
                self.assertEqual(first_unlike(other, one), (wanted[0], wanted[2], wanted[1]))

    def test_by_definition(self):
        for one, other in itertools.product(small_rules(), repeat=2):
            wanted = None
            for choice in reversed(choices_by_definition(2)):
                sums = (sum_by_definition(one, choice), sum_by_definition(other, choice))
                if sums[0] != sums[1]:
                    wanted = (choice,) + sums
            self.assertEqual(first_unlike(one, other), wanted)

    def test_they_match_just_where_their_weights_are_the_same(self):
        for one, other in itertools.product(small_rules(), repeat=2):
            self.assertEqual(first_unlike(one, other) is None, weights_of(one) == weights_of(other))

    def test_not_so_many(self):
        for one, other in itertools.permutations(range(7), 2):
            self.assertRaises(NotSoMany, first_unlike, SIX[:one], SIX[:other])
        self.assertRaises(NotSoMany, first_unlike, (), ((),))
        self.assertRaises(NotSoMany, first_unlike, ((),), ())
        self.assertRaises(NotSoMany, first_unlike, ((1,),), ((2,), (1,)))


def small_rules():
    heaps = [(), (1,), (2,), (1, 1), (2, 1), (3,), (1, 1, 1)]
    return list(itertools.product(heaps, repeat=2))


class HeldSideBySide(unittest.TestCase):
    def test_its_rules(self):
        for one, other in MATCHING:
            sided = Beside(one, other)
            self.assertEqual(sided.rules(), (one, other))
            self.assertIs(type(sided.rules()), tuple)

    def test_its_back(self):
        for one, other in MATCHING:
            sided = Beside(one, other)
            back = sided.back()
            self.assertIsInstance(back, Beside)
            self.assertEqual(back.rules(), (other, one))
            self.assertEqual(sided.rules(), (one, other))

    def test_its_backs_back(self):
        for one, other in MATCHING:
            sided = Beside(one, other)
            again = sided.back().back()
            self.assertIsInstance(again, Beside)
            self.assertEqual(again.rules(), (one, other))
            self.assertEqual(sided.back().rules(), (other, one))

    def test_two_have_nothing_in_common(self):
        one = Beside(((1, 1),), ((2,),))
        other = Beside(((2, 1), (3, 1)), ((1, 1, 1), (3, 1)))
        self.assertEqual(one.rules(), (((1, 1),), ((2,),)))
        self.assertEqual(one.back().rules(), (((2,),), ((1, 1),)))
        self.assertEqual(other.rules(), (((2, 1), (3, 1)), ((1, 1, 1), (3, 1))))

    def test_not_so_many(self):
        for one, other in itertools.permutations(range(7), 2):
            self.assertRaises(NotSoMany, Beside, SIX[:one], SIX[:other])

    def test_not_so_many_ahead_of_unmatched(self):
        self.assertRaises(NotSoMany, Beside, ((1,),), ((2,), (3,)))
        self.assertRaises(NotSoMany, Beside, ((5, 4), (1,)), ((2,),))
        self.assertRaises(NotSoMany, Beside, (), ((2,),))

    def test_unmatched(self):
        for one, other, wanted in UNLIKE:
            with self.subTest(one=one, other=other):
                with self.assertRaises(Unmatched) as refusal:
                    Beside(one, other)
                told = refusal.exception
                self.assertEqual((told.choice, told.one, told.other), wanted)
                with self.assertRaises(Unmatched) as refusal:
                    Beside(other, one)
                told = refusal.exception
                self.assertEqual((told.choice, told.other, told.one), wanted)


class KeptByAsMany(unittest.TestCase):
    def test_partings_of_each_number_in_the_list(self):
        for one, other in MATCHING:
            for n in range(17):
                self.assertEqual(len(kept_of(one, n)), len(kept_of(other, n)))

    def test_partings_of_each_number_as_counted(self):
        for one, other in MATCHING:
            for n in list(range(25)) + [100, 399, 400]:
                self.assertEqual(count_of(one, n), count_of(other, n))


if __name__ == "__main__":
    unittest.main()
