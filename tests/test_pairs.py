"""[15], and [5] as far as the pairs cancel: signed pairs and their partners; [3] and [4] of these."""

import itertools
import unittest
from collections import Counter

from shutpairs.errors import NoPair, NoSum
from shutpairs.lists import kept_of, partings_of
from shutpairs.pairs import pairs_of, partner_of, sign_of

GREATEST_OF_SIXTY_FIGURES = 10 ** 60 - 1
LEAST_OF_SIXTY_FIGURES = 10 ** 59

RULES = [
    (),
    ((),),
    ((1,),),
    ((2,), (1, 1)),
    ((1, 1), (2,)),
    ((3, 1), (3, 1)),
    ((2, 1), (3,), (1, 1, 1, 1), (5, 5)),
    ((4, 1), (), (2,)),
    ((1, 1), (2, 2), (3, 3), (4, 4), (5, 5)),
    ((1,), (2,), (3,), (4,), (2, 1), ()),
    ((1,), (1,), (1,), (1,), (1,), (1,)),
    ((GREATEST_OF_SIXTY_FIGURES,), (2,), (LEAST_OF_SIXTY_FIGURES, 1), (1,)),
]


def lies(one, other):
    return not Counter(one) - Counter(other)


def choices_by_definition(length):
    numbers = range(length)
    choices = [choice for many in range(length + 1) for choice in itertools.combinations(numbers, many)]
    return sorted(choices, key=lambda choice: sum([2 ** number for number in choice]))


def pairs_by_definition(rule, n):
    return [
        (heap, choice)
        for heap in partings_of(n)
        for choice in choices_by_definition(len(rule))
        if all(lies(rule[number], heap) for number in choice)
    ]


class Sign(unittest.TestCase):
    def test_by_how_many_numbers_are_chosen(self):
        heap = (3, 2, 1)
        for many, sign in enumerate((1, -1, 1, -1, 1, -1, 1)):
            self.assertEqual(sign_of((heap, tuple(range(many)))), sign)
            self.assertEqual(sign_of(((), tuple(range(many)))), sign)

    def test_not_by_which_numbers_or_by_the_heap(self):
        for number in range(6):
            self.assertEqual(sign_of(((4, 1), (number,))), -1)
        for choice in itertools.combinations(range(6), 2):
            self.assertEqual(sign_of(((4, 1, 1), choice)), 1)
        for heap in ((), (1,), (2, 1), (1, 1, 1)):
            self.assertEqual(sign_of((heap, ())), 1)

    def test_is_a_whole_number(self):
        self.assertIs(type(sign_of(((1,), ()))), int)
        self.assertIs(type(sign_of(((1,), (0,)))), int)


class Partner(unittest.TestCase):
    def test_the_least_number_is_put_in(self):
        rule = ((5,), (2,), (1, 1), (1,))
        heap = (2, 1, 1)
        self.assertEqual(partner_of(rule, (heap, ())), (heap, (1,)))
        self.assertEqual(partner_of(rule, (heap, (2,))), (heap, (1, 2)))
        self.assertEqual(partner_of(rule, (heap, (3,))), (heap, (1, 3)))
        self.assertEqual(partner_of(rule, (heap, (2, 3))), (heap, (1, 2, 3)))

    def test_the_least_number_is_left_out(self):
        rule = ((5,), (2,), (1, 1), (1,))
        heap = (2, 1, 1)
        self.assertEqual(partner_of(rule, (heap, (1,))), (heap, ()))
        self.assertEqual(partner_of(rule, (heap, (1, 2))), (heap, (2,)))
        self.assertEqual(partner_of(rule, (heap, (1, 3))), (heap, (3,)))
        self.assertEqual(partner_of(rule, (heap, (1, 2, 3))), (heap, (2, 3)))

    def test_number_0(self):
        rule = ((), (1,))
        self.assertEqual(partner_of(rule, ((), ())), ((), (0,)))
        self.assertEqual(partner_of(rule, ((), (0,))), ((), ()))
        self.assertEqual(partner_of(rule, ((1,), (1,))), ((1,), (0, 1)))
        self.assertEqual(partner_of(rule, ((1,), (0, 1))), ((1,), (1,)))

    def test_none_where_the_heap_keeps_the_rule(self):
        self.assertIs(partner_of((), ((), ())), None)
        self.assertIs(partner_of((), ((3, 1), ())), None)
        self.assertIs(partner_of(((2,),), ((3, 1), ())), None)
        self.assertIs(partner_of(((1, 1), (2, 2)), ((2, 1), ())), None)

    def test_of_a_heap_above_all_bounds(self):
        heap = (GREATEST_OF_SIXTY_FIGURES,) * 60
        rule = ((LEAST_OF_SIXTY_FIGURES,), (GREATEST_OF_SIXTY_FIGURES,))
        self.assertEqual(partner_of(rule, (heap, ())), (heap, (1,)))
        self.assertEqual(partner_of(rule, (heap, (1,))), (heap, ()))

    def test_the_partners_partner_is_the_pair_with_the_other_sign(self):
        for rule in RULES:
            for n in range(8):
                for pair in pairs_by_definition(rule, n):
                    partner = partner_of(rule, pair)
                    with self.subTest(rule=rule, pair=pair):
                        if partner is None:
                            self.assertIn(pair[0], kept_of(rule, n))
                            self.assertEqual(pair[1], ())
                        else:
                            self.assertEqual(partner[0], pair[0])
                            self.assertIs(type(partner), tuple)
                            self.assertIs(type(partner[1]), tuple)
                            self.assertEqual(partner_of(rule, partner), pair)
                            self.assertEqual(sign_of(partner), -sign_of(pair))

    def test_by_definition(self):
        for rule in RULES:
            for n in range(8):
                for heap, choice in pairs_by_definition(rule, n):
                    inside = [number for number, shut in enumerate(rule) if lies(shut, heap)]
                    wanted = (heap, tuple(sorted(set(choice) ^ {inside[0]}))) if inside else None
                    self.assertEqual(partner_of(rule, (heap, choice)), wanted)


class NoPairs(unittest.TestCase):
    def refused(self, rule, heap, choice):
        with self.subTest(rule=rule, heap=heap, choice=choice):
            self.assertRaises(NoPair, partner_of, rule, (heap, choice))

    def test_not_rising_or_there_twice(self):
        rule = ((1,), (2,), (2, 1))
        for choice in ((1, 0), (2, 0), (2, 1), (0, 2, 1), (1, 0, 2), (2, 1, 0)):
            self.refused(rule, (2, 1), choice)
        for choice in ((0, 0), (1, 1), (2, 2), (0, 0, 1), (0, 1, 1), (0, 1, 0), (0, 1, 2, 2)):
            self.refused(rule, (2, 1), choice)

    def test_below_0(self):
        rule = ((1,), (2,), (2, 1))
        for choice in ((-1,), (-3,), (-4,), (-1, 0), (-2, -1), (-3, -2, -1), (-1, 0, 1, 2), (0, -1)):
            self.refused(rule, (2, 1), choice)

    def test_of_no_heap(self):
        for rule in ((), ((1,),), ((1,), (2,)), ((1,), (2,), (1,), (2,), (1,), (2,))):
            many = len(rule)
            for choice in ((many,), (many + 1,), tuple(range(many + 1)), (many, many + 1)):
                self.refused(rule, (2, 1), choice)

    def test_of_sixty_figures(self):
        for rule in RULES:
            for number in (GREATEST_OF_SIXTY_FIGURES, LEAST_OF_SIXTY_FIGURES):
                self.refused(rule, (2, 1), (number,))
                self.refused(rule, (2, 1), (-number,))
        self.refused(((1,),), (2, 1), (0, GREATEST_OF_SIXTY_FIGURES))
        self.refused(((1,),), (2, 1), (-GREATEST_OF_SIXTY_FIGURES, 0))

    def test_one_whose_heap_does_not_lie_in_the_heap(self):
        rule = ((1,), (2,), (1, 1), (3,), (2, 1))
        for choice in ((2,), (3,), (0, 2), (2, 4), (0, 1, 2), (0, 1, 3, 4), (2, 3)):
            self.refused(rule, (2, 1), choice)
        self.refused(rule, (), (0,))

    def test_also_where_the_heap_keeps_the_rule(self):
        rule = ((1, 1), (3,))
        for choice in ((0,), (1,), (0, 1), (2,), (-1,), (1, 0), (0, 0), (GREATEST_OF_SIXTY_FIGURES,)):
            self.refused(rule, (2, 1), choice)
        for choice in ((0,), (-1,), (0, 0), (1, 0)):
            self.refused((), (2, 1), choice)
            self.refused((), (), choice)

    def test_all_short_rows_of_numbers(self):
        rule = ((1,), (3,), (2,))
        for heap in ((2, 1), (3, 1), (4,), (3, 2, 1)):
            for length in range(4):
                for choice in itertools.product(range(-2, 5), repeat=length):
                    rising = list(choice) == sorted(set(choice) & {0, 1, 2})
                    if not (rising and all(lies(rule[number], heap) for number in choice)):
                        self.refused(rule, heap, choice)
                    else:
                        partner_of(rule, (heap, choice))


class AllPairs(unittest.TestCase):
    def test_told(self):
        self.assertEqual(pairs_of((), 0), [((), ())])
        self.assertEqual(pairs_of(((),), 0), [((), ()), ((), (0,))])
        self.assertEqual(
            pairs_of(((1,), (2,), (1, 1)), 3),
            [
                ((3,), ()),
                ((2, 1), ()), ((2, 1), (0,)), ((2, 1), (1,)), ((2, 1), (0, 1)),
                ((1, 1, 1), ()), ((1, 1, 1), (0,)), ((1, 1, 1), (2,)), ((1, 1, 1), (0, 2)),
            ],
        )

    def test_by_definition(self):
        for rule in RULES:
            for n in range(11):
                with self.subTest(rule=rule, n=n):
                    told = pairs_of(rule, n)
                    self.assertEqual(told, pairs_by_definition(rule, n))
                    self.assertIs(type(told), list)

    def test_of_the_greatest_number(self):
        for rule in RULES[:8]:
            self.assertEqual(pairs_of(rule, 16), pairs_by_definition(rule, 16))

    def test_of_each_number_without_heaps(self):
        for n in range(17):
            self.assertEqual(pairs_of((), n), [(heap, ()) for heap in partings_of(n)])

    def test_all_choices_of_alike_heaps(self):
        rule = ((1,),) * 6
        self.assertEqual(pairs_of(rule, 1), [((1,), choice) for choice in choices_by_definition(6)])

    def test_they_cancel_but_for_those_that_keep_the_rule(self):
        for rule in RULES:
            for n in range(13):
                total = sum([sign_of(pair) for pair in pairs_of(rule, n)])
                self.assertEqual(total, len(kept_of(rule, n)))

    def test_the_partner_is_among_them(self):
        for rule in RULES:
            pairs = pairs_of(rule, 6)
            for pair in pairs:
                partner = partner_of(rule, pair)
                if partner is not None:
                    self.assertIn(partner, pairs)

    def test_refused(self):
        greatest, least = GREATEST_OF_SIXTY_FIGURES, LEAST_OF_SIXTY_FIGURES
        for rule in RULES:
            for n in (-1, 17, -2, 18, 24, 25, greatest, -greatest, least, -least):
                self.assertRaises(NoSum, pairs_of, rule, n)

    def test_a_told_list_that_is_spoilt_changes_no_later_answer(self):
        for rule in RULES:
            wanted = pairs_by_definition(rule, 5)
            told = pairs_of(rule, 5)
            told[0] = "spoilt"
            told.append("spoilt")
            self.assertEqual(pairs_of(rule, 5), wanted)
            self.assertEqual(partings_of(5)[0], (5,))

    def test_no_later_call_changes_a_told_list(self):
        told = pairs_of(((1,),), 2)
        pairs_of(((1,),), 2)
        pairs_of(((1,),), 3)
        self.assertEqual(told, [((2,), ()), ((1, 1), ()), ((1, 1), (0,))])


if __name__ == "__main__":
    unittest.main()
