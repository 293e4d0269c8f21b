"""[20] to [22], and [5] as far as the walk goes: walks, their ends, meetings, and what holds as a walk."""

import unittest
from collections import Counter

from shutpairs.beside import Beside
from shutpairs.errors import NoSum, NotKept, TooLong
from shutpairs.lists import kept_of
from shutpairs.walks import end_of, is_walk, meetings_of, walk_of

GREAT = 10 ** 60 - 1

MATCHING = [
    ((), ()),
    (((),), ((),)),
    (((1, 1),), ((2,),)),
    (((2,),), ((1, 1),)),
    (((1, 1), (2, 2), (3, 3)), ((2,), (4,), (6,))),
    (((2, 1), (3, 1)), ((1, 1, 1), (3, 1))),
    (((3, 2, 1), (2, 1)), ((3, 3), (3,))),
    (((2, 1), (2, 1), (4,)), ((3,), (3,), (2, 2))),
    (((1, 1, 1), (2, 2, 2), (4, 4, 4), (5, 5, 5)), ((3,), (6,), (12,), (15,))),
    (((7,), (4,), (1, 1, 1), (2,), (1, 1, 1), (7,)), ((7,), (2, 2), (3,), (1, 1), (3,), (7,))),
    (((8, 3, 3), (3, 3), (1, 1, 1), (2,), (2,), (2, 1, 1, 1)), ((8, 6), (6,), (3,), (1, 1), (1, 1), (3, 1, 1))),
]
PLAIN = Beside(((1, 1), (2, 2), (3, 3)), ((2,), (4,), (6,)))

# Two rules, a heap that keeps the first, and how many places its walk has.
LONG = [
    (((5,), (1, 1), (2,) * 3, (6, 6)), ((5,), (2,), (6,), (4,) * 3), (7,) * 5 + (4,) * 9, 998),
    (((4, 4), (1,) * 4, (6,) * 7, (3,)), ((8,), (4,), (7,) * 6, (1,) * 3), (8, 8, 8, 8, 7, 7, 5), 1002),
    (((1, 1), (2, 2), (3,) * 5, (6,)), ((2,), (4,), (5,) * 3, (1,) * 6), (4,) * 7, 1398),
    (((3, 3), (5,) * 7, (2,) * 5, (1, 1)), ((6,), (7,) * 5, (5, 5), (2,)), (7,) * 10, 1402),
]
# The same, of a sum of 24, with more places than `most` may ever be.
LONGEST = [
    (MATCHING[9][0], MATCHING[9][1], (3,) * 8, 1674),
    (((3,), (3,), (8,), (8,), (2,) * 4, (1, 1)), ((1,) * 3, (1,) * 3, (4, 4), (4, 4), (8,), (2,)), (4,) * 6, 1554),
]


def lies_in_by_definition(one, other):
    return not Counter(one) - Counter(other)


def inside_by_definition(rule, heap):
    return [number for number, shut in enumerate(rule) if lies_in_by_definition(shut, heap)]


def joined_by_definition(rule, choice):
    most = Counter()
    for number in choice:
        most |= Counter(rule[number])
    return most


def crossed_by_definition(rules, place):
    side, heap, choice = place
    parts = Counter(heap)
    parts.subtract(joined_by_definition(rules[side - 1], choice))
    parts.update(joined_by_definition(rules[2 - side], choice))
    return (3 - side, tuple(sorted(parts.elements(), reverse=True)), choice)


def walk_by_definition(one, other, heap):
    walk = [(1, heap, ())]
    walk.append(crossed_by_definition((one, other), walk[-1]))
    while True:
        side, heap, choice = walk[-1]
        inside = inside_by_definition((one, other)[side - 1], heap)
        if side == 2 and not inside:
            return walk
        walk.append((side, heap, tuple(sorted(set(choice) ^ {inside[0]}))))
        walk.append(crossed_by_definition((one, other), walk[-1]))


def turned_about(walk):
    return [(3 - side, heap, choice) for side, heap, choice in reversed(walk)]


class Walks(unittest.TestCase):
    def test_of_two_places(self):
        self.assertEqual(walk_of(PLAIN, ()), [(1, (), ()), (2, (), ())])
        self.assertEqual(walk_of(PLAIN, (5, 3, 1)), [(1, (5, 3, 1), ()), (2, (5, 3, 1), ())])
        self.assertEqual(walk_of(Beside((), ()), (4, 4)), [(1, (4, 4), ()), (2, (4, 4), ())])

    def test_of_six_places(self):
        self.assertEqual(
            walk_of(PLAIN, (3, 2)),
            [
                (1, (3, 2), ()), (2, (3, 2), ()), (2, (3, 2), (0,)),
                (1, (3, 1, 1), (0,)), (1, (3, 1, 1), ()), (2, (3, 1, 1), ()),
            ],
        )

    def test_of_eighteen_places(self):
        self.assertEqual(
            walk_of(PLAIN, (6, 2, 1)),
            [
                (1, (6, 2, 1), ()), (2, (6, 2, 1), ()), (2, (6, 2, 1), (0,)), (1, (6, 1, 1, 1), (0,)),
                (1, (6, 1, 1, 1), ()), (2, (6, 1, 1, 1), ()), (2, (6, 1, 1, 1), (2,)),
                (1, (3, 3, 1, 1, 1), (2,)), (1, (3, 3, 1, 1, 1), (0, 2)), (2, (6, 2, 1), (0, 2)),
                (2, (6, 2, 1), (2,)), (1, (3, 3, 2, 1), (2,)), (1, (3, 3, 2, 1), ()), (2, (3, 3, 2, 1), ()),
                (2, (3, 3, 2, 1), (0,)), (1, (3, 3, 1, 1, 1), (0,)), (1, (3, 3, 1, 1, 1), ()),
                (2, (3, 3, 1, 1, 1), ()),
            ],
        )

    def test_of_parts_of_sixty_figures(self):
        sided = Beside(((GREAT - 2, 2),), ((GREAT,),))
        self.assertEqual(
            walk_of(sided, (GREAT, 7)),
            [
                (1, (GREAT, 7), ()), (2, (GREAT, 7), ()), (2, (GREAT, 7), (0,)),
                (1, (GREAT - 2, 7, 2), (0,)), (1, (GREAT - 2, 7, 2), ()), (2, (GREAT - 2, 7, 2), ()),
            ],
        )

    def test_by_definition(self):
        for one, other in MATCHING:
            sided = Beside(one, other)
            for n in range(13):
                for heap in kept_of(one, n):
                    walk = walk_of(sided, heap)
                    self.assertEqual(walk, walk_by_definition(one, other, heap))
                    self.assertIs(type(walk), list)
                    self.assertTrue(all(type(place) is tuple for place in walk))

    def test_where_it_begins_and_ends(self):
        for one, other in MATCHING:
            sided = Beside(one, other)
            for heap in kept_of(one, 12):
                walk = walk_of(sided, heap)
                self.assertEqual(walk[:2], [(1, heap, ()), (2, heap, ())])
                side, end, choice = walk[-1]
                self.assertEqual((side, choice), (2, ()))
                self.assertEqual(inside_by_definition(other, end), [])
                self.assertEqual(sum(end), sum(heap))

    def test_no_place_twice_and_two_more_than_a_multiple_of_four(self):
        for one, other in MATCHING:
            sided = Beside(one, other)
            for heap in kept_of(one, 12):
                walk = walk_of(sided, heap)
                self.assertEqual(len(walk) % 4, 2)
                self.assertEqual(len(set(walk)), len(walk))

    def test_the_backs_walk_is_this_one_turned_about(self):
        for one, other in MATCHING:
            sided = Beside(one, other)
            for n in range(13):
                for heap in kept_of(one, n):
                    walk = walk_of(sided, heap)
                    self.assertEqual(walk_of(sided.back(), walk[-1][1]), turned_about(walk))

    def test_long_ones(self):
        for one, other, heap, length in LONG[:3]:
            sided = Beside(one, other)
            walk = walk_of(sided, heap, 1400)
            self.assertEqual(len(walk), length)
            self.assertEqual(walk, walk_by_definition(one, other, heap))
            self.assertEqual(len(set(walk)), length)
            self.assertEqual(walk_of(sided.back(), walk[-1][1], 1400), turned_about(walk))

    def test_the_told_list_is_a_new_one(self):
        told = walk_of(PLAIN, (3, 2))
        wanted = list(told)
        told[1] = "spoilt"
        told.append("spoilt")
        self.assertEqual(walk_of(PLAIN, (3, 2)), wanted)
        self.assertEqual(end_of(PLAIN, (3, 2)), (3, 1, 1))
        self.assertIs(is_walk(PLAIN, wanted), True)
        self.assertIs(is_walk(PLAIN, told), False)

    def test_no_later_call_changes_a_told_list(self):
        told = walk_of(PLAIN, (3, 2))
        wanted = list(told)
        walk_of(PLAIN, (3, 2)).append("spoilt")
        walk_of(PLAIN, (6, 2, 1))
        walk_of(PLAIN.back(), (3, 1, 1))
        meetings_of(PLAIN, 5)
        self.assertEqual(told, wanted)


class NotKeptFirst(unittest.TestCase):
    def refused(self, call, number, *given, **named):
        with self.assertRaises(NotKept) as refusal:
            call(*given, **named)
        self.assertEqual(refusal.exception.number, number)

    def test_the_least_number_that_lies_in_the_heap(self):
        for heap, number in [((1, 1), 0), ((2, 2), 1), ((3, 3), 2), ((3, 3, 1, 1), 0), ((3, 3, 2, 2), 1), ((9, 3, 3), 2)]:
            self.refused(walk_of, number, PLAIN, heap)
            self.refused(end_of, number, PLAIN, heap)

    def test_it_is_the_first_rule_that_is_asked(self):
        self.refused(walk_of, 0, PLAIN.back(), (2,))
        self.refused(walk_of, 2, PLAIN.back(), (6, 3, 3))
        self.refused(end_of, 1, PLAIN.back(), (6, 4))
        self.assertEqual(end_of(PLAIN.back(), (1, 1)), (2,))

    def test_ahead_of_too_long(self):
        for most in (2, 3, 1000, 1400):
            self.refused(walk_of, 1, PLAIN, (6, 4, 2, 2), most)
            self.refused(walk_of, 1, PLAIN, (6, 4, 2, 2), most=most)

    def test_parts_of_sixty_figures(self):
        sided = Beside(((GREAT,), (5,)), ((GREAT - 2, 2), (5,)))
        self.refused(walk_of, 0, sided, (GREAT,) * 60)
        self.refused(walk_of, 1, sided, (GREAT - 1, 5))

    def test_a_rule_with_the_heap_without_parts_is_kept_by_none(self):
        sided = Beside(((9,), ()), ((9,), ()))
        self.refused(walk_of, 1, sided, ())
        self.refused(end_of, 0, sided, (9,))


class TooManyPlaces(unittest.TestCase):
    def refused(self, place, *given, **named):
        with self.assertRaises(TooLong) as refusal:
            walk_of(*given, **named)
        self.assertEqual(refusal.exception.place, place)
        self.assertIs(type(refusal.exception.place), tuple)

    def test_just_most_places_are_told_and_one_more_is_refused(self):
        walk = walk_of(PLAIN, (6, 2, 1))
        for most in range(2, 18):
            self.refused(walk[most - 1], PLAIN, (6, 2, 1), most)
            self.refused(walk[most - 1], PLAIN, (6, 2, 1), most=most)
        for most in (18, 19, 20, 1000, 1400):
            self.assertEqual(walk_of(PLAIN, (6, 2, 1), most), walk)
            self.assertEqual(walk_of(PLAIN, (6, 2, 1), most=most), walk)

    def test_two_places_are_never_too_many(self):
        self.assertEqual(walk_of(PLAIN, (5,), 2), [(1, (5,), ()), (2, (5,), ())])
        self.assertEqual(walk_of(PLAIN, (5,), most=2), [(1, (5,), ()), (2, (5,), ())])
        self.refused((2, (2,), ()), PLAIN, (2,), 2)

    def test_left_out_it_is_a_thousand(self):
        one, other, heap, length = LONG[0]
        self.assertEqual(len(walk_of(Beside(one, other), heap)), length)
        for one, other, heap, length in LONG[1:]:
            walk = walk_by_definition(one, other, heap)
            self.assertEqual(len(walk), length)
            self.refused(walk[999], Beside(one, other), heap)

    def test_the_greatest_most(self):
        one, other, heap, length = LONG[2]
        self.assertEqual(len(walk_of(Beside(one, other), heap, 1400)), length)
        self.assertEqual(len(walk_of(Beside(one, other), heap, most=length)), length)
        one, other, heap, length = LONG[3]
        self.refused(walk_by_definition(one, other, heap)[1399], Beside(one, other), heap, 1400)

    def test_refused_it_leaves_the_rules_as_they_were(self):
        self.assertRaises(TooLong, walk_of, PLAIN, (6, 2, 1), 4)
        self.assertRaises(NotKept, walk_of, PLAIN, (1, 1))
        self.assertEqual(PLAIN.rules(), (((1, 1), (2, 2), (3, 3)), ((2,), (4,), (6,))))
        self.assertEqual(len(walk_of(PLAIN, (6, 2, 1))), 18)


class Ends(unittest.TestCase):
    def test_told(self):
        self.assertEqual(end_of(PLAIN, ()), ())
        self.assertEqual(end_of(PLAIN, (5, 3, 1)), (5, 3, 1))
        self.assertEqual(end_of(PLAIN, (6, 2, 1)), (3, 3, 1, 1, 1))
        self.assertEqual(end_of(PLAIN, (4,)), (1, 1, 1, 1))
        self.assertEqual(end_of(PLAIN.back(), (1, 1, 1, 1)), (4,))

    def test_of_each_sum_up_to_twenty_four(self):
        for one, other in MATCHING:
            sided = Beside(one, other)
            for n in list(range(13)) + [24]:
                for heap in kept_of(one, n)[::1 if n < 13 else 9]:
                    end = end_of(sided, heap)
                    self.assertEqual(end, walk_by_definition(one, other, heap)[-1][1])
                    self.assertIs(type(end), tuple)
                    self.assertEqual(sum(end), n)
                    self.assertEqual(inside_by_definition(other, end), [])
                    self.assertEqual(end_of(sided.back(), end), heap)

    def test_unlike_ones_have_unlike_ends_and_each_is_the_end_of_one(self):
        for one, other in MATCHING:
            sided = Beside(one, other)
            for n in range(13):
                ends = [end_of(sided, heap) for heap in kept_of(one, n)]
                self.assertEqual(sorted(ends, reverse=True), kept_of(other, n))

    def test_however_many_places_the_walk_has(self):
        for one, other, heap, length in LONGEST:
            sided = Beside(one, other)
            walk = walk_by_definition(one, other, heap)
            self.assertEqual(len(walk), length)
            self.assertRaises(TooLong, walk_of, sided, heap, 1400)
            self.assertEqual(end_of(sided, heap), walk[-1][1])
            self.assertEqual(end_of(sided.back(), walk[-1][1]), heap)

    def test_no_sum_above_twenty_four(self):
        for heap in ((25,), (24, 1), (1,) + (24,), (5,) * 5, (GREAT,), (GREAT,) * 60):
            heap = tuple(sorted(heap, reverse=True))
            self.assertRaises(NoSum, end_of, PLAIN, heap)
            self.assertRaises(NoSum, end_of, Beside((), ()), heap)
        self.assertEqual(end_of(PLAIN, (24,)), (24,))
        self.assertEqual(end_of(PLAIN, (23, 1)), (23, 1))

    def test_no_sum_ahead_of_not_kept(self):
        for heap in ((23, 1, 1), (1,) * 25, (3,) * 9, (GREAT, 2, 2)):
            self.assertRaises(NoSum, end_of, PLAIN, heap)
        for heap in ((22, 1, 1), (1,) * 24, (3,) * 8):
            self.assertRaises(NotKept, end_of, PLAIN, heap)


class Meetings(unittest.TestCase):
    def test_told(self):
        self.assertEqual(meetings_of(PLAIN, 0), [((), ())])
        self.assertEqual(
            meetings_of(PLAIN, 6),
            [((6,), (3, 3)), ((5, 1), (5, 1)), ((4, 2), (1,) * 6), ((3, 2, 1), (3, 1, 1, 1))],
        )
        self.assertEqual(meetings_of(Beside(((),), ((),)), 3), [])
        self.assertEqual(meetings_of(Beside((), ()), 2), [((2,), (2,)), ((1, 1), (1, 1))])

    def test_of_each_number_in_their_order(self):
        for one, other in MATCHING:
            sided = Beside(one, other)
            for n in list(range(12)) + [16]:
                told = meetings_of(sided, n)
                self.assertIs(type(told), list)
                self.assertTrue(all(type(row) is tuple for row in told))
                self.assertEqual([heap for heap, end in told], kept_of(one, n))
                for heap, end in told[::1 if n < 12 else 7]:
                    self.assertEqual(end, walk_by_definition(one, other, heap)[-1][1])

    def test_the_backs_are_these_exchanged(self):
        for one, other in MATCHING:
            sided = Beside(one, other)
            for n in range(12):
                exchanged = [(end, heap) for heap, end in meetings_of(sided, n)]
                self.assertEqual(meetings_of(sided.back(), n), sorted(exchanged, reverse=True))

    def test_no_sum(self):
        for n in (-1, -2, 17, 18, 24, 400, GREAT, -GREAT):
            for one, other in MATCHING:
                self.assertRaises(NoSum, meetings_of, Beside(one, other), n)

    def test_the_told_list_is_a_new_one(self):
        wanted = list(meetings_of(PLAIN, 6))
        told = meetings_of(PLAIN, 6)
        meetings_of(PLAIN, 7).clear()
        self.assertEqual(told, wanted)
        told[0] = "spoilt"
        told.append("spoilt")
        self.assertEqual(meetings_of(PLAIN, 6), wanted)


class HoldsAsAWalk(unittest.TestCase):
    def test_each_walk_as_it_is(self):
        for one, other in MATCHING:
            sided = Beside(one, other)
            for n in range(10):
                for heap in kept_of(one, n):
                    self.assertIs(is_walk(sided, walk_of(sided, heap)), True)

    def test_long_ones(self):
        for one, other, heap, length in LONG[:3]:
            sided = Beside(one, other)
            walk = walk_by_definition(one, other, heap)
            self.assertIs(is_walk(sided, walk), True)
            self.assertIs(is_walk(sided, walk[:-1]), False)
            self.assertIs(is_walk(sided, walk[:-4]), False)
            self.assertIs(is_walk(sided, walk[:1]), False)
        one, other, heap, length = LONG[3]
        self.assertIs(is_walk(Beside(one, other), walk_by_definition(one, other, heap)[:1400]), False)

    def test_an_empty_list(self):
        for one, other in MATCHING:
            self.assertIs(is_walk(Beside(one, other), []), False)

    def test_a_place_left_out(self):
        for walk in (walk_of(PLAIN, (6, 2, 1)), walk_of(PLAIN, (3, 2)), walk_of(PLAIN, (5,))):
            for at in range(len(walk)):
                self.assertIs(is_walk(PLAIN, walk[:at] + walk[at + 1:]), False)
                self.assertIs(is_walk(PLAIN, walk[:at]), False)
                self.assertIs(is_walk(PLAIN, walk[at + 1:]), False)

    def test_a_place_put_in(self):
        for walk in (walk_of(PLAIN, (6, 2, 1)), walk_of(PLAIN, (5,))):
            for at in range(len(walk) + 1):
                for place in (walk[0], walk[-1], walk[at - 1], (2, (), ()), (0, (), ())):
                    self.assertIs(is_walk(PLAIN, walk[:at] + [place] + walk[at:]), False)

    def test_the_first_place_twice(self):
        walk = walk_of(PLAIN, (3, 2))
        self.assertIs(is_walk(PLAIN, walk[:1] + walk), False)
        self.assertIs(is_walk(PLAIN, walk[:1] * 2), False)
        self.assertIs(is_walk(PLAIN, walk[:1]), False)

    def test_two_places_exchanged(self):
        walk = walk_of(PLAIN, (6, 2, 1))
        for one in range(len(walk)):
            for other in range(one):
                exchanged = list(walk)
                exchanged[one] = walk[other]
                exchanged[other] = walk[one]
                self.assertIs(is_walk(PLAIN, exchanged), False)

    def test_a_place_changed_in_its_side_heap_or_choice(self):
        walk = walk_of(PLAIN, (6, 2, 1))
        for at, (side, heap, choice) in enumerate(walk):
            changed = [(3 - side, heap, choice), (side + 2, heap, choice), (-side, heap, choice)]
            changed.extend([(side, heap + (1,), choice), (side, heap[:-1], choice), (side, (), choice)])
            changed.extend([(side, heap, choice + (0,)), (side, heap, choice + (2,)), (side, heap, (-1,))])
            for place in changed:
                self.assertIs(is_walk(PLAIN, walk[:at] + [place] + walk[at + 1:]), False)

    def test_one_that_goes_on_behind_its_end(self):
        for heap in ((5,), (3, 2), (6, 2, 1)):
            walk = walk_of(PLAIN, heap)
            end = walk[-1][1]
            self.assertIs(is_walk(PLAIN, walk + [(1, end, ())]), False)
            self.assertIs(is_walk(PLAIN, walk + [(2, end, ())]), False)
            self.assertIs(is_walk(PLAIN, walk + [(2, end, ()), (1, end, ())]), False)
            self.assertIs(is_walk(PLAIN, walk + turned_about(walk)), False)
            self.assertIs(is_walk(PLAIN, walk + walk), False)

    def test_the_backs_walk(self):
        walk = walk_of(PLAIN, (6, 2, 1))
        self.assertIs(is_walk(PLAIN.back(), walk), False)
        self.assertIs(is_walk(PLAIN, turned_about(walk)), False)
        self.assertIs(is_walk(PLAIN.back(), turned_about(walk)), True)
        self.assertIs(is_walk(PLAIN.back(), walk[::-1]), False)
        self.assertIs(is_walk(PLAIN, walk[::-1]), False)

    def test_a_first_heap_that_does_not_keep_the_first_rule(self):
        for heap in ((1, 1), (3, 3, 1), (6, 2, 2)):
            for side in (1, 2):
                self.assertIs(is_walk(PLAIN, [(side, heap, ())]), False)
                self.assertIs(is_walk(PLAIN, [(1, heap, ()), (2, heap, ())]), False)
        walk = walk_of(PLAIN, (6, 2, 1))
        for at in range(1, len(walk)):
            self.assertIs(is_walk(PLAIN, walk[at:]), False)

    def test_tuples_that_are_no_places(self):
        for place in ((0, (5,), ()), (3, (5,), ()), (-1, (5,), ()), (1, (5,), (0,)), (1, (5,), (7, -2)), (GREAT, (), ())):
            self.assertIs(is_walk(PLAIN, [place]), False)
            self.assertIs(is_walk(PLAIN, [place, (2, (5,), ())]), False)
            self.assertIs(is_walk(PLAIN, [(1, (5,), ()), place]), False)
            self.assertIs(is_walk(PLAIN, [(1, (5,), ()), (2, (5,), ()), place]), False)
            self.assertIs(is_walk(PLAIN, [place] * 9), False)

    def test_the_list_stays(self):
        for rows in (walk_of(PLAIN, (6, 2, 1)), [], [(0, (1, 1), (3,))], [(1, (1, 1), ())] * 3, walk_of(PLAIN, (3, 2))[:3]):
            before = list(rows)
            is_walk(PLAIN, rows)
            self.assertEqual(rows, before)


if __name__ == "__main__":
    unittest.main()
