"""[19], and [5] as far as each step is its own way back: places crossed and toggled."""

import itertools
import unittest
from collections import Counter

from shutpairs.beside import Beside
from shutpairs.errors import NoPair, NotPaired
from shutpairs.steps import crossed, toggled

GREAT = 10 ** 60 - 1

MATCHING = [
    ((), ()),
    (((),), ((),)),
    (((1, 1),), ((2,),)),
    (((1, 1), (2, 2), (3, 3)), ((2,), (4,), (6,))),
    (((2, 1), (3, 1)), ((1, 1, 1), (3, 1))),
    (((3, 2, 1), (), (2, 1)), ((3, 3), (), (3,))),
    (((2, 1), (2, 1), (4,)), ((3,), (3,), (2, 2))),
    (((7,), (4,), (1, 1, 1), (2,), (1, 1, 1), (7,)), ((7,), (2, 2), (3,), (1, 1), (3,), (7,))),
    (((GREAT,), (1,)), ((GREAT - 2, 2), (1,))),
]
# No part stands in two of the heaps, so each choice has the sum of its heaps' sums.
GREAT_ONE = tuple([(GREAT - 10 * k, 10 * k + 1) for k in range(6)])
GREAT_OTHER = tuple([(GREAT - 10 * k - 1, 10 * k + 2) for k in range(6)])


def partings_by_definition(n, greatest):
    if n == 0:
        return [()]
    firsts = range(min(n, greatest), 0, -1)
    return [(first,) + rest for first in firsts for rest in partings_by_definition(n - first, first)]


def lies_in_by_definition(one, other):
    return not Counter(one) - Counter(other)


def places_of(one, other, n):
    """Each place of the two rules whose heap is a parting of n."""
    places = []
    for side, rule in ((1, one), (2, other)):
        for heap in partings_by_definition(n, n):
            inside = [number for number, shut in enumerate(rule) if lies_in_by_definition(shut, heap)]
            for many in range(len(inside) + 1):
                places.extend((side, heap, choice) for choice in itertools.combinations(inside, many))
    return places


def joined_by_definition(rule, choice):
    most = Counter()
    for number in choice:
        most |= Counter(rule[number])
    return most


def crossed_by_definition(rules, place):
    side, heap, choice = place
    parts = Counter(heap)
    parts.subtract(joined_by_definition(rules[side - 1], choice))
    parts.update(joined_by_definition(rules[2 - side], choice))
    return (3 - side, tuple(sorted(parts.elements(), reverse=True)), choice)


class Crossed(unittest.TestCase):
    def test_told(self):
        sided = Beside(((1, 1), (2, 2)), ((2,), (4,)))
        self.assertEqual(crossed(sided, (1, (5,), ())), (2, (5,), ()))
        self.assertEqual(crossed(sided, (1, (3, 1, 1, 1), (0,))), (2, (3, 2, 1), (0,)))
        self.assertEqual(crossed(sided, (1, (2, 2, 1, 1), (0, 1))), (2, (4, 2), (0, 1)))
        self.assertEqual(crossed(sided, (2, (4, 2, 1), (1,))), (1, (2, 2, 2, 1), (1,)))
        self.assertEqual(crossed(sided, (2, (4, 2, 1), (0,))), (1, (4, 1, 1, 1), (0,)))

    def test_what_chosen_heaps_have_in_common_is_exchanged_once(self):
        sided = Beside(((2, 1), (3, 1)), ((1, 1, 1), (3, 1)))
        self.assertEqual(crossed(sided, (1, (3, 2, 1), (0, 1))), (2, (3, 1, 1, 1), (0, 1)))
        self.assertEqual(crossed(sided, (2, (3, 1, 1, 1), (0, 1))), (1, (3, 2, 1), (0, 1)))

    def test_each_place_of_small_sums(self):
        for one, other in MATCHING:
            sided = Beside(one, other)
            for n in range(10):
                for place in places_of(one, other, n):
                    told = crossed(sided, place)
                    self.assertEqual(told, crossed_by_definition((one, other), place))
                    self.assertIs(type(told), tuple)
                    self.assertIs(type(told[1]), tuple)
                    self.assertEqual(sum(told[1]), n)
                    self.assertEqual(crossed(sided, told), place)

    def test_of_none_to_six_heaps_with_great_parts(self):
        for length in range(7):
            rules = (GREAT_ONE[:length], GREAT_OTHER[:length])
            sided = Beside(rules[0], rules[1])
            heap = tuple(sorted(sum(rules[0] + rules[1], ()) + (GREAT, 5, 1), reverse=True))
            for side in (1, 2):
                for many in range(length + 1):
                    place = (side, heap, tuple(range(length - many, length)))
                    told = crossed(sided, place)
                    self.assertEqual(told, crossed_by_definition(rules, place))
                    self.assertEqual(sum(told[1]), sum(heap))
                    self.assertEqual(crossed(sided, told), place)

    def test_heaps_of_sixty_parts_of_sixty_figures(self):
        sided = Beside(((GREAT, 3),), ((GREAT - 1, 4),))
        heap = (GREAT,) * 30 + (3,) * 30
        told = crossed(sided, (1, heap, (0,)))
        self.assertEqual(told, (2, (GREAT,) * 29 + (GREAT - 1, 4) + (3,) * 29, (0,)))
        self.assertEqual(crossed(sided, told), (1, heap, (0,)))
        self.assertEqual(crossed(sided, (1, heap, ())), (2, heap, ()))

    def test_the_two_rules_stay(self):
        for one, other in MATCHING:
            sided = Beside(one, other)
            for place in places_of(one, other, 6):
                crossed(sided, place)
            self.assertEqual(sided.rules(), (one, other))


class Toggled(unittest.TestCase):
    def test_told(self):
        sided = Beside(((1, 1), (2, 2)), ((2,), (4,)))
        self.assertEqual(toggled(sided, (1, (1, 1), ())), (1, (1, 1), (0,)))
        self.assertEqual(toggled(sided, (1, (1, 1), (0,))), (1, (1, 1), ()))
        self.assertEqual(toggled(sided, (2, (4, 1, 1), ())), (2, (4, 1, 1), (1,)))
        self.assertEqual(toggled(sided, (2, (4, 2), (1,))), (2, (4, 2), (0, 1)))
        self.assertEqual(toggled(sided, (2, (4, 2), (0, 1))), (2, (4, 2), (1,)))
        self.assertEqual(toggled(sided, (1, (2, 2, 1), ())), (1, (2, 2, 1), (1,)))

    def test_each_place_of_small_sums(self):
        for one, other in MATCHING:
            sided = Beside(one, other)
            for n in range(10):
                for place in places_of(one, other, n):
                    self.check_toggled(sided, place)

    def check_toggled(self, sided, place):
        side, heap, choice = place
        rule = sided.rules()[side - 1]
        inside = [number for number, shut in enumerate(rule) if lies_in_by_definition(shut, heap)]
        if not inside:
            self.assertRaises(NotPaired, toggled, sided, place)
            return
        told = toggled(sided, place)
        self.assertEqual(told, (side, heap, tuple(sorted(set(choice) ^ {inside[0]}))))
        self.assertIs(type(told), tuple)
        self.assertEqual(toggled(sided, told), place)

    def test_of_none_to_six_heaps_with_great_parts(self):
        for length in range(1, 7):
            sided = Beside(GREAT_ONE[:length], GREAT_OTHER[:length])
            for side, rule in enumerate(sided.rules(), start=1):
                for least in range(length):
                    heap = tuple(sorted(sum(rule[least:], ()), reverse=True))
                    place = (side, heap, tuple(range(least + 1, length)))
                    told = (side, heap, tuple(range(least, length)))
                    self.assertEqual(toggled(sided, place), told)
                    self.assertEqual(toggled(sided, told), place)

    def test_great_parts(self):
        sided = Beside(((GREAT,), (1,)), ((GREAT - 2, 2), (1,)))
        self.assertEqual(toggled(sided, (1, (GREAT, 1), (1,))), (1, (GREAT, 1), (0, 1)))
        self.assertEqual(toggled(sided, (2, (GREAT - 2, 2, 1), (0, 1))), (2, (GREAT - 2, 2, 1), (1,)))
        self.assertEqual(toggled(sided, (2, (GREAT, 1), ())), (2, (GREAT, 1), (1,)))
        self.assertRaises(NotPaired, toggled, sided, (1, (GREAT - 2, 2), ()))
        self.assertRaises(NotPaired, toggled, sided, (2, (GREAT,) * 60, ()))

    def test_not_paired_is_asked_of_the_sides_own_rule(self):
        sided = Beside(((1, 1),), ((2,),))
        self.assertRaises(NotPaired, toggled, sided, (1, (2,), ()))
        self.assertEqual(toggled(sided, (2, (2,), ())), (2, (2,), (0,)))
        self.assertRaises(NotPaired, toggled, sided, (2, (1, 1), ()))
        self.assertEqual(toggled(sided, (1, (1, 1), ())), (1, (1, 1), (0,)))
        self.assertRaises(NotPaired, toggled, sided, (1, (), ()))
        self.assertRaises(NotPaired, toggled, Beside((), ()), (2, (1,), ()))

    def test_it_can_be_toggled_wherever_a_rule_has_the_heap_without_parts(self):
        sided = Beside(((2,), ()), ((1, 1), ()))
        self.assertEqual(toggled(sided, (1, (), ())), (1, (), (1,)))
        self.assertEqual(toggled(sided, (2, (), (1,))), (2, (), ()))


class NoPlaces(unittest.TestCase):
    SIDED = Beside(((1, 1), (2, 2)), ((2,), (4,)))

    def refused(self, place, sided=SIDED):
        with self.subTest(place=place):
            self.assertRaises(NoPair, crossed, sided, place)
            self.assertRaises(NoPair, toggled, sided, place)

    def test_other_sides(self):
        for side in (0, 3, -1, -2, 4, GREAT, -GREAT):
            self.refused((side, (1, 1), (0,)))
            self.refused((side, (2, 2, 1, 1), ()))
            self.refused((side, (2, 2, 1, 1), (0, 1)))
            self.refused((side, (), ()))
            self.refused((side, (3,), ()))

    def test_choices_that_are_none(self):
        heap = (4, 2, 2, 1, 1)
        for choice in ((1, 0), (0, 0), (1, 1), (-1,), (-2,), (-1, 0), (2,), (0, 2), (0, 1, 2), (GREAT,), (-GREAT,)):
            self.refused((1, heap, choice))
            self.refused((2, heap, choice))

    def test_heaps_that_lack_a_chosen_one(self):
        self.refused((1, (2, 2, 1), (0,)))
        self.refused((1, (2, 1, 1), (1,)))
        self.refused((1, (2, 1, 1), (0, 1)))
        self.refused((1, (2, 2, 1), (0, 1)))
        self.refused((2, (1, 1), (0,)))
        self.refused((2, (2, 2), (1,)))
        self.refused((2, (4,), (0, 1)))
        self.refused((2, (2,), (0, 1)))

    def test_a_pair_of_the_other_side_alone(self):
        self.refused((1, (4,), (1,)))
        self.refused((2, (2, 2), (1,)))
        self.refused((1, (2,), (0,)))
        self.refused((2, (1, 1), (0,)))

    def test_ahead_of_not_paired_where_the_heap_keeps_the_sides_rule(self):
        for side, heap in ((1, (4, 2, 1)), (2, (3, 1, 1, 1)), (1, ()), (2, ())):
            for choice in ((0,), (1,), (0, 1), (1, 0), (0, 0), (-1,), (2,)):
                self.refused((side, heap, choice))
        self.refused((0, (4, 2, 1), ()))
        self.refused((3, (3, 1), ()))

    def test_rules_without_heaps(self):
        sided = Beside((), ())
        for side in (1, 2):
            for choice in ((0,), (-1,), (0, 1)):
                self.refused((side, (1,), choice), sided)
        self.refused((0, (1,), ()), sided)
        self.refused((3, (1,), ()), sided)

    def test_refused_it_leaves_the_rules_as_they_were(self):
        for place in ((0, (1,), ()), (1, (1,), (0,)), (2, (2,), (1,))):
            self.refused(place)
        self.assertEqual(self.SIDED.rules(), (((1, 1), (2, 2)), ((2,), (4,))))


if __name__ == "__main__":
    unittest.main()
