"""[16], and [5] as far as it counts: how many partings a number has, and how many keep a rule; [4] of these."""

import itertools
import unittest
from collections import Counter

from shutpairs.choices import choices_of, joined_of
from shutpairs.counts import count_of, ways_of
from shutpairs.errors import NoSum
from shutpairs.heaps import sum_of
from shutpairs.lists import kept_of, partings_of

GREATEST_OF_SIXTY_FIGURES = 10 ** 60 - 1
LEAST_OF_SIXTY_FIGURES = 10 ** 59

WAYS = [
    1, 1, 2, 3, 5, 7, 11, 15, 22, 30, 42, 56, 77, 101, 135, 176, 231, 297, 385, 490, 627,
    792, 1002, 1255, 1575, 1958, 2436, 3010, 3718, 4565, 5604, 6842, 8349, 10143, 12310, 14883,
    17977, 21637, 26015, 31185, 37338,
]
RULES = [
    (),
    ((),),
    ((1,),),
    ((2,), (1, 1)),
    ((3, 1), (3, 1)),
    ((1, 1), (1,), (1, 1, 1)),
    ((2, 1), (3,), (1, 1, 1, 1), (5, 5)),
    ((4, 1), (), (2,)),
    ((1, 1), (2, 2), (3, 3), (4, 4), (5, 5), (6, 6)),
    ((3, 2, 1), (2, 2), (1, 1, 1), (4, 1), (4, 3), (2, 1, 1)),
    ((1,), (1,), (1,), (1,), (1,), (1,)),
    ((2, 1), (2, 1), (3,), (3,), (2, 1), (3,)),
    ((GREATEST_OF_SIXTY_FIGURES,), (2,), (LEAST_OF_SIXTY_FIGURES, 1), (1, 1)),
    ((24,), (12, 12), (23, 1)),
]


def times_part(row, part):
    # The row of a sum of powers, divided by 1 - x ** part.
    for n in range(part, len(row)):
        row[n] += row[n - part]


def shifted_row(row, by):
    return ([0] * by + row)[:len(row)]


def ways_by_parts(bound, left_out=()):
    row = [1] + [0] * bound
    for part in range(1, bound + 1):
        if part not in left_out:
            times_part(row, part)
    return row


def counts_by_times(rule, bound):
    """Sums up, for each way in which the rule's parts may stand, the partings in which they stand so."""
    caps = Counter()
    for heap in rule:
        caps |= Counter(heap)
    parts = sorted(caps)
    rest = ways_by_parts(bound, parts)
    total = [0] * (bound + 1)
    for times in itertools.product(*[range(caps[part] + 1) for part in parts]):
        heap = Counter(dict(zip(parts, times)))
        if all(Counter(shut) - heap for shut in rule):
            row = shifted_row(rest, sum([part * many for part, many in heap.items()]))
            for part in parts:
                if heap[part] == caps[part]:
                    times_part(row, part)
            total = [one + other for one, other in zip(total, row)]
    return total


class Ways(unittest.TestCase):
    def test_to_forty(self):
        self.assertEqual([ways_of(n) for n in range(41)], WAYS)

    def test_of_great_numbers(self):
        self.assertEqual(ways_of(100), 190569292)
        self.assertEqual(ways_of(200), 3972999029388)
        self.assertEqual(ways_of(400), 6727090051741041926)

    def test_each_to_four_hundred(self):
        self.assertEqual([ways_of(n) for n in range(401)], ways_by_parts(400))

    def test_against_the_list(self):
        for n in range(25):
            self.assertEqual(ways_of(n), len(partings_of(n)))

    def test_below_0(self):
        for n in (-1, -2, -24, -400, -401, -LEAST_OF_SIXTY_FIGURES, -GREATEST_OF_SIXTY_FIGURES):
            self.assertEqual(ways_of(n), 0)
            self.assertIs(type(ways_of(n)), int)

    def test_refused(self):
        for n in (401, 402, 1000, LEAST_OF_SIXTY_FIGURES, GREATEST_OF_SIXTY_FIGURES):
            self.assertRaises(NoSum, ways_of, n)


class Counts(unittest.TestCase):
    def test_told(self):
        self.assertEqual(count_of((), 0), 1)
        self.assertEqual(count_of(((),), 0), 0)
        self.assertEqual(count_of(((1,),), 1), 0)
        self.assertEqual(count_of(((1,),), 4), 2)
        self.assertEqual(count_of(((2,), (1, 1)), 7), 4)

    def test_against_the_list_of_those_that_keep(self):
        for rule in RULES:
            for n in range(25):
                with self.subTest(rule=rule, n=n):
                    self.assertEqual(count_of(rule, n), len(kept_of(rule, n)))

    def test_the_rule_without_heaps(self):
        for n in list(range(41)) + [399, 400]:
            self.assertEqual(count_of((), n), ways_of(n))

    def test_one_that_has_the_heap_without_parts(self):
        for n in list(range(25)) + [399, 400]:
            self.assertEqual(count_of(((),), n), 0)
            self.assertEqual(count_of(((7,), (), (2, 1), ()), n), 0)

    def test_parts_of_sixty_figures_shut_out_nothing(self):
        rule = ((GREATEST_OF_SIXTY_FIGURES,), (LEAST_OF_SIXTY_FIGURES,) * 60, (GREATEST_OF_SIXTY_FIGURES, 1))
        for n in (0, 1, 24, 100, 400):
            self.assertEqual(count_of(rule, n), ways_of(n))
            self.assertEqual(count_of(rule + ((1,),), n), count_of(((1,),), n))

    def test_alike_heaps_count_once(self):
        for n in (0, 1, 5, 30, 400):
            self.assertEqual(count_of(((1,),) * 6, n), count_of(((1,),), n))
            self.assertEqual(count_of(((2, 1), (3,)) * 3, n), count_of(((2, 1), (3,)), n))

    def test_to_four_hundred(self):
        places = (0, 1, 2, 3, 25, 26, 50, 99, 100, 250, 399, 400)
        for rule in RULES[2:-2]:
            wanted = counts_by_times(rule, 400)
            with self.subTest(rule=rule):
                self.assertEqual([count_of(rule, n) for n in places], [wanted[n] for n in places])

    def test_each_number_of_a_rule_of_six_heaps(self):
        rule = ((3, 2, 1), (2, 2), (1, 1, 1), (4, 1), (4, 3), (2, 1, 1))
        self.assertEqual([count_of(rule, n) for n in range(0, 401, 7)], counts_by_times(rule, 400)[::7])

    def test_six_heaps_of_sixty_parts(self):
        rule = tuple([(part,) * 60 for part in range(1, 7)])
        wanted = counts_by_caps(rule, 400)
        self.assertEqual([count_of(rule, n) for n in (59, 60, 120, 400)], [wanted[n] for n in (59, 60, 120, 400)])

    def test_six_heaps_of_sixty_unlike_parts(self):
        rule = tuple([tuple(range(60 + k, k, -1)) for k in range(6)])
        self.assertEqual(count_of(rule, 400), ways_of(400))

    def test_the_signed_sum_over_all_choices(self):
        for rule in RULES:
            for n in (0, 1, 10, 23, 57, 400):
                total = 0
                for choice in choices_of(rule):
                    total += (-1) ** len(choice) * ways_of(n - sum_of(joined_of(rule, choice)))
                self.assertEqual(count_of(rule, n), total)

    def test_refused(self):
        greatest, least = GREATEST_OF_SIXTY_FIGURES, LEAST_OF_SIXTY_FIGURES
        for rule in RULES:
            for n in (-1, 401, -2, 402, -400, greatest, -greatest, least, -least):
                self.assertRaises(NoSum, count_of, rule, n)


def counts_by_caps(rule, bound):
    """The same for a rule each of whose heaps has one part alone, as often as told, all unlike."""
    row = ways_by_parts(bound, [heap[0] for heap in rule])
    for heap in rule:
        kept = [0] * (bound + 1)
        for times in range(len(heap)):
            kept = [one + other for one, other in zip(kept, shifted_row(row, times * heap[0]))]
        row = kept
    return row


if __name__ == "__main__":
    unittest.main()
