"""[1] and [5] over the whole: what is made matches, is kept by as many partings, and each has its own end."""

import itertools
import math
import unittest

from shutpairs.beside import Beside, first_unlike
from shutpairs.choices import choices_of, joined_of
from shutpairs.counts import count_of, ways_of
from shutpairs.desk import Desk
from shutpairs.heaps import sum_of
from shutpairs.lists import kept_of, partings_of
from shutpairs.makers import lanes_pair, often_pair
from shutpairs.pairs import pairs_of, partner_of, sign_of
from shutpairs.rules import keeps
from shutpairs.slopes import is_left, is_strict, shifted
from shutpairs.steps import crossed, toggled
from shutpairs.stores import is_of_store, numbers_of
from shutpairs.texts import heap_text, rule_text
from shutpairs.tides import signs_to
from shutpairs.walks import end_of, is_walk, meetings_of, walk_of

MOST = 10

MADE = [often_pair(times, numbers) for times in range(2, 10) for numbers in ((), (1,), (1, 2, 4), (3, 1, 2, 5, 4, 6))]
MADE += [
    lanes_pair(lanes, levels)
    for lanes, levels in (
        ((), ()),
        ((), ((), ())),
        (((2, 1),), ((1,), (2,))),
        (((1, 2), (2, 1)), ((1, 0), (0, 1), (1, 1))),
        (((1, 3), (2, 2), (3, 1)), ((1, 0, 0), (0, 1, 0), (0, 0, 1), (1, 2, 0), (2, 0, 1))),
        (((2, 4), (4, 1), (1, 2)), ((1, 0, 1), (0, 1, 0), (0, 0, 2), (1, 1, 0))),
        (((4, 6), (6, 4)), ((1, 0), (0, 1))),
        (((1, 1), (2, 3)), ((0, 0), (1, 0), (0, 1))),
    )
]


def numbers_by_definition(n, greatest):
    """How many partings of n there are into parts no greater than told, one by one."""
    if n == 0:
        return 1
    return sum(numbers_by_definition(n - part, part) for part in range(min(n, greatest), 0, -1))


class MadeRules(unittest.TestCase):
    def each(self):
        for one, other in MADE:
            with self.subTest(one=one, other=other):
                yield one, other, Beside(one, other)

    def test_they_match(self):
        for one, other in MADE:
            self.assertIs(first_unlike(one, other), None)
            self.assertIs(first_unlike(other, one), None)

    def test_as_many_partings_keep_the_one_as_the_other(self):
        for one, other, sided in self.each():
            for n in range(MOST + 1):
                many = len(kept_of(one, n))
                self.assertEqual(len(kept_of(other, n)), many)
                self.assertEqual((count_of(one, n), count_of(other, n)), (many, many))
                self.assertEqual(len([heap for heap in partings_of(n) if keeps(one, heap)]), many)

    def test_each_ones_end_is_another_ones_and_back(self):
        for one, other, sided in self.each():
            for n in range(MOST + 1):
                heaps = kept_of(one, n)
                ends = [end_of(sided, heap) for heap in heaps]
                self.assertEqual(sorted(ends, reverse=True), kept_of(other, n))
                self.assertEqual([end_of(sided.back(), end) for end in ends], heaps)
                self.assertEqual(meetings_of(sided, n), list(zip(heaps, ends)))

    def test_the_walks(self):
        for one, other, sided in self.each():
            for n in range(MOST + 1):
                for heap, end in meetings_of(sided, n):
                    walk = walk_of(sided, heap)
                    back = [(3 - place[0],) + place[1:] for place in reversed(walk)]
                    self.assertEqual((walk[0], walk[-1]), ((1, heap, ()), (2, end, ())))
                    self.assertEqual(len(set(walk)), len(walk))
                    self.assertEqual(walk_of(sided.back(), end), back)
                    self.assertTrue(is_walk(sided, walk) and is_walk(sided.back(), back))

    def test_each_step_is_its_own_way_back(self):
        for one, other, sided in self.each():
            for n in range(8):
                for side, rule in ((1, one), (2, other)):
                    for heap, choice in pairs_of(rule, n):
                        place = (side, heap, choice)
                        self.assertEqual(crossed(sided, crossed(sided, place)), place)
                        self.assertEqual(sum_of(crossed(sided, place)[1]), n)
                        if not keeps(rule, heap):
                            self.assertEqual(toggled(sided, toggled(sided, place)), place)

    def test_what_the_signed_sum_over_all_choices_tells(self):
        for one, other, sided in self.each():
            for rule in (one, other):
                for n in range(MOST + 1):
                    many = len(kept_of(rule, n))
                    rows = [(joined_of(rule, choice), choice) for choice in choices_of(rule)]
                    self.assertEqual(sum(sign_of(row) * ways_of(n - sum_of(row[0])) for row in rows), many)
                    self.assertEqual(sum(sign_of(pair) for pair in pairs_of(rule, n)), many)
                    alone = [pair for pair in pairs_of(rule, n) if partner_of(rule, pair) is None]
                    self.assertEqual(len(alone), many)

    def test_at_the_desk(self):
        for one, other, sided in self.each():
            desk = Desk()
            desk.tell(f"rule one {rule_text(one)}")
            desk.tell(f"rule other {rule_text(other)}")
            self.assertEqual(desk.tell("match one other"), "yes")
            for n in range(7):
                self.assertEqual(desk.tell(f"count one {n}"), desk.tell(f"count other {n}"))
                for heap, end in meetings_of(sided, n):
                    self.assertEqual(desk.tell(f"send one other {heap_text(heap)}"), heap_text(end))
                    self.assertEqual(desk.tell(f"send other one {heap_text(end)}"), heap_text(heap))


class StrictOnes(unittest.TestCase):
    def test_they_cancel_one_another_but_for_those_left_over(self):
        signs = signs_to(MOST)
        for n in range(MOST + 1):
            heaps = [heap for heap in partings_of(n) if is_strict(heap)]
            left = [heap for heap in heaps if is_left(heap)]
            moved = [shifted(heap) for heap in heaps if not is_left(heap)]
            self.assertEqual(sorted(moved + left), sorted(heaps))
            self.assertEqual(sum((-1) ** len(heap) for heap in left), signs[n])
            self.assertEqual(sum((-1) ** len(heap) for heap in heaps), signs[n])

    def test_the_ways_follow(self):
        signs = signs_to(40)
        for n in range(1, 41):
            self.assertEqual(ways_of(n), -sum(signs[j] * ways_of(n - j) for j in range(1, n + 1)))
            self.assertEqual(ways_of(n), numbers_by_definition(n, n))


class Stores(unittest.TestCase):
    def test_their_numbers_are_those_of_their_partings(self):
        for parts in itertools.combinations((1, 2, 3, 5), 3):
            for mosts in itertools.product((0, 1, 3, None), repeat=3):
                store = tuple(zip(parts, mosts))
                many = [len([heap for heap in partings_of(n) if is_of_store(store, heap)]) for n in range(MOST + 1)]
                self.assertEqual(numbers_of(store, MOST), many)

    def test_a_store_and_a_rule_that_say_the_same(self):
        store = tuple((part, 1) for part in range(1, 7))
        rule = often_pair(2, (1, 2, 3, 4, 5, 6))[0]
        self.assertEqual(numbers_of(store, 6), [count_of(rule, n) for n in range(7)])

    def test_lanes_have_the_sums_of_the_least_number_that_both_divide(self):
        for left, right in itertools.product(range(1, 13), repeat=2):
            one, other = lanes_pair([(left, right)], [(1,)])
            self.assertEqual((sum_of(one[0]), sum_of(other[0])), (math.lcm(left, right),) * 2)


if __name__ == "__main__":
    unittest.main()
