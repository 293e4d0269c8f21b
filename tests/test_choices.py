"""[14]: the choices of a rule and their joined heaps; [3] of these."""

import itertools
import unittest
from collections import Counter

from shutpairs.choices import choices_of, joined_of

GREATEST_OF_SIXTY_FIGURES = 10 ** 60 - 1

SIX = ((6,), (5, 1), (4, 4), (3, 1, 1), (2, 2, 2), (1, 1))
RULES = [SIX[:length] for length in range(7)] + [
    ((),),
    ((), (2,), ()),
    ((2, 1), (2, 1), (2, 1)),
    ((1,), (1, 1), (1, 1, 1), (1, 1, 1, 1), (1,), ()),
    ((GREATEST_OF_SIXTY_FIGURES, 1), (GREATEST_OF_SIXTY_FIGURES,) * 2, (1,) * 60),
    ((),) * 6,
]
CHOICES_OF_THREE = [(), (0,), (1,), (0, 1), (2,), (0, 2), (1, 2), (0, 1, 2)]


def weight(choice):
    return sum([2 ** number for number in choice])


def by_definition(length):
    numbers = range(length)
    choices = [choice for many in range(length + 1) for choice in itertools.combinations(numbers, many)]
    return sorted(choices, key=weight)


def joined_by_definition(rule, choice):
    most = Counter()
    for number in choice:
        most |= Counter(rule[number])
    return tuple(sorted(most.elements(), reverse=True))


class Choices(unittest.TestCase):
    def test_of_none_to_three(self):
        self.assertEqual(choices_of(()), [()])
        self.assertEqual(choices_of(((7,),)), [(), (0,)])
        self.assertEqual(choices_of(((7,), (7,))), [(), (0,), (1,), (0, 1)])
        self.assertEqual(choices_of(((7,), (), (3, 2))), CHOICES_OF_THREE)

    def test_of_none_to_six(self):
        for rule in RULES:
            told = choices_of(rule)
            self.assertEqual(told, by_definition(len(rule)))
            self.assertIs(type(told), list)
            self.assertTrue(all(type(choice) is tuple for choice in told))

    def test_how_many(self):
        for length, many in enumerate((1, 2, 4, 8, 16, 32, 64)):
            self.assertEqual(len(choices_of(SIX[:length])), many)

    def test_in_their_order(self):
        for rule in RULES:
            weights = [weight(choice) for choice in choices_of(rule)]
            self.assertEqual(weights, list(range(2 ** len(rule))))

    def test_the_told_list_is_a_new_one(self):
        for rule in RULES:
            told = choices_of(rule)
            told[0] = "spoilt"
            told.append("spoilt")
            self.assertEqual(choices_of(rule), by_definition(len(rule)))

    def test_no_later_call_changes_a_told_list(self):
        told = choices_of(SIX[:3])
        choices_of(SIX[:3])
        choices_of(SIX)
        self.assertEqual(told, CHOICES_OF_THREE)


class JoinedOf(unittest.TestCase):
    def test_told(self):
        rule = ((3, 1, 1), (2, 2, 1), (3, 3))
        self.assertEqual(joined_of(rule, ()), ())
        self.assertEqual(joined_of(rule, (0,)), (3, 1, 1))
        self.assertEqual(joined_of(rule, (2,)), (3, 3))
        self.assertEqual(joined_of(rule, (0, 1)), (3, 2, 2, 1, 1))
        self.assertEqual(joined_of(rule, (0, 2)), (3, 3, 1, 1))
        self.assertEqual(joined_of(rule, (0, 1, 2)), (3, 3, 2, 2, 1, 1))

    def test_of_the_choice_without_numbers(self):
        for rule in RULES:
            self.assertEqual(joined_of(rule, ()), ())

    def test_of_each_choice(self):
        for rule in RULES:
            for choice in by_definition(len(rule)):
                with self.subTest(rule=rule, choice=choice):
                    told = joined_of(rule, choice)
                    self.assertEqual(told, joined_by_definition(rule, choice))
                    self.assertIs(type(told), tuple)

    def test_of_alike_heaps(self):
        rule = ((2, 1), (2, 1), (2, 1))
        for choice in CHOICES_OF_THREE[1:]:
            self.assertEqual(joined_of(rule, choice), (2, 1))

    def test_of_heaps_without_parts(self):
        for choice in by_definition(6):
            self.assertEqual(joined_of(((),) * 6, choice), ())


if __name__ == "__main__":
    unittest.main()
