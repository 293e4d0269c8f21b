"""[9]: the dots of a heap, read back, and a heap turned about; [2] and [3] as far as they touch these."""

import itertools
import unittest

from shutpairs.dots import dots_of, read_dots, turned
from shutpairs.errors import NoText

SHOWN = {
    (): [],
    (1,): ["o"],
    (2,): ["oo"],
    (3, 1): ["ooo", "o"],
    (2, 2): ["oo", "oo"],
    (5, 3, 3, 1): ["ooooo", "ooo", "ooo", "o"],
    (1,) * 60: ["o"] * 60,
    (60,): ["o" * 60],
    (30, 30): ["o" * 30, "o" * 30],
}
TURNED = {
    (): (),
    (1,): (1,),
    (2,): (1, 1),
    (3, 1): (2, 1, 1),
    (2, 2): (2, 2),
    (4, 2, 2, 1): (4, 3, 1, 1),
    (5, 5): (2, 2, 2, 2, 2),
    (3, 3, 3): (3, 3, 3),
    (7, 7, 2, 2, 2): (5, 5, 2, 2, 2, 2, 2),
    (1,) * 60: (60,),
    (60,): (1,) * 60,
    (30, 30): (2,) * 30,
}
# Each heap of at most five parts, none greater than 4.
SMALL = [
    parts
    for length in range(6)
    for parts in itertools.combinations_with_replacement((4, 3, 2, 1), length)
]
OTHER_SIGNS = ("O", "0", ".", " ", "\n", "\r", "\t", "\x00", "Q", "*", "\u043e", "\u00ba", "\uff4f", "\u00f6")
ROWS = ["oooo", "oooo", "ooo", "oo", "oo"]


def with_row(place, row):
    return ROWS[:place] + [row] + ROWS[place + 1:]


class Dots(unittest.TestCase):
    def test_shown(self):
        for heap, rows in SHOWN.items():
            self.assertEqual(dots_of(heap), rows)
            self.assertIs(type(dots_of(heap)), list)

    def test_one_row_for_each_part(self):
        for heap in SMALL:
            rows = dots_of(heap)
            self.assertEqual(tuple([len(row) for row in rows]), heap)
            self.assertLessEqual(set("".join(rows)), {"o"})

    def test_a_told_list_that_is_spoilt_changes_no_later_answer(self):
        for heap, rows in SHOWN.items():
            told = dots_of(heap)
            told.append("spoilt")
            told[0] = "spoilt"
            self.assertEqual(dots_of(heap), rows)

    def test_no_later_call_changes_a_told_list(self):
        told = dots_of((3, 1))
        dots_of((3, 1))
        dots_of((2, 2, 2))
        self.assertEqual(told, ["ooo", "o"])


class ReadBack(unittest.TestCase):
    def test_shown(self):
        for heap, rows in SHOWN.items():
            self.assertEqual(read_dots(rows), heap)
            self.assertIs(type(read_dots(rows)), tuple)

    def test_all_small_ones(self):
        for heap in SMALL:
            self.assertEqual(read_dots(dots_of(heap)), heap)

    def test_sixty_rows_of_sixty_signs(self):
        self.assertEqual(read_dots(["o" * 60] * 60), (60,) * 60)
        self.assertEqual(read_dots(["o" * k for k in range(60, 0, -1)]), tuple(range(60, 0, -1)))

    def test_list_handed_in_stays(self):
        rows = ["ooo", "oo", "o"]
        heap = read_dots(rows)
        self.assertEqual(rows, ["ooo", "oo", "o"])
        rows[0] = "oooooo"
        rows.append("o")
        self.assertEqual(heap, (3, 2, 1))


class Refused(unittest.TestCase):
    def refused(self, rows):
        kept = list(rows)
        with self.subTest(rows=rows):
            self.assertRaises(NoText, read_dots, rows)
            self.assertEqual(rows, kept)

    def test_a_row_without_signs(self):
        for place in range(len(ROWS)):
            self.refused(with_row(place, ""))
        self.refused([""])
        self.refused(["", ""])
        self.refused(ROWS + [""])
        self.refused([""] + ROWS)

    def test_a_row_longer_than_the_one_ahead_of_it(self):
        for place in range(1, len(ROWS)):
            self.refused(with_row(place, ROWS[place - 1] + "o"))
            self.refused(with_row(place, "o" * 60))
        self.refused(["o"] + ROWS)
        self.refused(ROWS + ["ooo"])
        self.refused(["o", "oo"])
        self.refused(["o" * 59, "o" * 60])

    def test_longer_than_the_one_ahead_though_not_than_the_first(self):
        self.refused(["oooo", "o", "ooo"])
        self.refused(["oooo", "oo", "o", "oo"])

    def test_a_row_of_another_sign_alone(self):
        for sign in OTHER_SIGNS:
            self.refused([sign])
            for place, row in enumerate(ROWS):
                self.refused(with_row(place, sign * len(row)))

    def test_another_sign_in_a_row(self):
        for sign in OTHER_SIGNS:
            for place, row in enumerate(ROWS):
                for k in range(len(row)):
                    self.refused(with_row(place, row[:k] + sign + row[k + 1:]))

    def test_another_sign_at_the_ends_of_a_row(self):
        for sign in OTHER_SIGNS:
            for place, row in enumerate(ROWS):
                self.refused(with_row(place, row[1:] + sign))
                self.refused(with_row(place, sign + row[1:]))
            self.refused(["ooo" + sign])
            self.refused([sign + "ooo"])


class TurnedAbout(unittest.TestCase):
    def test_turned(self):
        for heap, wanted in TURNED.items():
            self.assertEqual(turned(heap), wanted)
            self.assertIs(type(turned(heap)), tuple)

    def test_again_it_is_the_heap(self):
        for heap in list(TURNED) + SMALL:
            self.assertEqual(turned(turned(heap)), heap)

    def test_it_is_the_heap_of_the_columns_of_dots(self):
        for heap in SMALL:
            columns = itertools.zip_longest(*["o" * part for part in heap], fillvalue="")
            self.assertEqual(turned(heap), tuple([len("".join(column)) for column in columns]))


if __name__ == "__main__":
    unittest.main()
