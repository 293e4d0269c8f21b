"""[8]: heaps and rules written as texts, and read back."""

import itertools
import re
import unittest

from shutpairs.errors import NoText
from shutpairs.texts import heap_text, read_heap, read_rule, rule_text

LEAST_OF_SIXTY_FIGURES = 10 ** 59
GREATEST_OF_SIXTY_FIGURES = 10 ** 60 - 1

HEAPS = {
    (): "none",
    (1,): "1",
    (10,): "10",
    (3, 1): "3 1",
    (2, 2): "2 2",
    (100, 20, 9, 9, 1): "100 20 9 9 1",
    (1,) * 60: " ".join(["1"] * 60),
    tuple(range(60, 0, -1)): " ".join([str(part) for part in range(60, 0, -1)]),
    (GREATEST_OF_SIXTY_FIGURES, LEAST_OF_SIXTY_FIGURES): "9" * 60 + " 1" + "0" * 59,
}
RULES = {
    (): "no heaps",
    ((),): "none",
    ((3, 1),): "3 1",
    ((), ()): "none | none",
    ((3, 1), (2,)): "3 1 | 2",
    ((2,), (3, 1)): "2 | 3 1",
    ((1,), (), (1,)): "1 | none | 1",
    ((1,), (2,), (3,), (4,), (5,), (6, 6)): "1 | 2 | 3 | 4 | 5 | 6 6",
    ((1,) * 60,) * 6: " | ".join([" ".join(["1"] * 60)] * 6),
    ((GREATEST_OF_SIXTY_FIGURES,), (1,)): "9" * 60 + " | 1",
}

NO_HEAPS_TEXT = {
    "a text without signs": [""],
    "a blank too many": ["3  1", "3   1", "  ", " "],
    "a blank at an end": [" 3 1", "3 1 ", " 3", "3 ", " none", "none "],
    "a 0 ahead": ["01", "3 01", "00", "03 1", "0" * 59 + "1"],
    "a sign ahead": ["+1", "-1", "3 +1", "3 -1", "--1"],
    "nought": ["0", "3 0", "0 0"],
    "61 figures": ["1" + "0" * 60, "9" * 61, "9" * 61 + " 1", "1" * 1999],
    "61 numbers": [
        " ".join(["1"] * 61),
        " ".join([str(part) for part in range(61, 0, -1)]),
        " ".join(["1"] * 1000),
    ],
    "rising parts": ["1 2", "3 1 2", "9 10", "2 1 1 2", "1 1 2"],
    "other signs": [
        "a", "3a", "3,1", "3, 1", "3.0", "3.", "1e2", "0x1", "1_0", "(3, 1)", "3\t1", "|", "3 | 1", "o",
        "\u00b2", "\u0663", "\uff13", "3\u00a01", "3\u20031", "\u0967", "3 \u00b9", "\x00", "1\x00",
    ],
    "the end of a line": ["3 1\n", "\n3 1", "3\n1", "3\r1", "3 1\r\n", "none\n", "\n", "3 \n1", "\nnone", "3\x0b1"],
    "none among parts": ["none 1", "3 none", "3 none 1", "none none"],
    "words that are not none": ["None", "NONE", "non", "nones", "no heaps", "no", "()"],
}
NO_RULES_TEXT = {
    "a text without signs": [""],
    "a stroke without its blanks": ["3 1|2", "3 1 |2", "3 1| 2", "none|none", "3|1 | 2", "2 |1", "2| 1"],
    "a doubled stroke": ["3 1 || 2", "3 1 | | 2", "3 1 |  | 2", "1 | | 1"],
    "a stroke at an end": ["| 2", " | 2", "2 |", "2 | ", "|", " | ", "no heaps |", "no heaps | "],
    "a seventh heap": [
        " | ".join(["1"] * 7),
        " | ".join(["none"] * 7),
        "1 | 2 | 3 | 4 | 5 | 6 | 7",
        " | ".join(["1"] * 400),
    ],
    "no heaps among heaps": ["no heaps | 1", "1 | no heaps", "no heaps | no heaps", "1 | no heaps | 2", "no heaps 1"],
    "no blank but one": ["3 |  1", "3  | 1", " 3 | 1", "3 | 1 ", "no  heaps", " no heaps", "no heaps "],
    "other signs": ["3 / 1", "3 ; 1", "3\t|\t1", "3 \u00a6 1", "3\u00a0| 1", "noheaps", "No heaps", "no heap"],
    "the end of a line": ["3 | 1\n", "3\n| 1", "3 |\n1", "no heaps\n", "no\nheaps", "\nno heaps", "3 | 1\r", "\n"],
}

FORM_OF_A_HEAP = re.compile(r"[1-9][0-9]*( [1-9][0-9]*)*")
FORM_OF_A_RULE = re.compile(FORM_OF_A_HEAP.pattern + r"( \| " + FORM_OF_A_HEAP.pattern + ")*")


def short_texts(signs, most):
    for length in range(most + 1):
        for row in itertools.product(signs, repeat=length):
            yield "".join(row)


def falls(text):
    parts = [int(word) for word in text.split(" ")]
    return parts == sorted(parts, reverse=True)


class Heaps(unittest.TestCase):
    def test_written(self):
        for heap, text in HEAPS.items():
            self.assertEqual(heap_text(heap), text)

    def test_read_back(self):
        for heap, text in HEAPS.items():
            told = read_heap(text)
            self.assertEqual(told, heap)
            self.assertIs(type(told), tuple)
            self.assertTrue(all(type(part) is int for part in told))

    def test_sixty_parts_of_sixty_figures(self):
        heap = (GREATEST_OF_SIXTY_FIGURES,) * 60
        self.assertEqual(read_heap(heap_text(heap)), heap)

    def test_each_other_text_is_refused(self):
        for why, texts in NO_HEAPS_TEXT.items():
            for text in texts:
                with self.subTest(why=why, text=text):
                    self.assertRaises(NoText, read_heap, text)

    def test_all_short_texts(self):
        for text in short_texts("012 ", 6):
            if FORM_OF_A_HEAP.fullmatch(text) and falls(text):
                self.assertEqual(read_heap(text), tuple(map(int, text.split(" "))))
            else:
                self.assertRaises(NoText, read_heap, text)


class Rules(unittest.TestCase):
    def test_written(self):
        for rule, text in RULES.items():
            self.assertEqual(rule_text(rule), text)

    def test_read_back(self):
        for rule, text in RULES.items():
            told = read_rule(text)
            self.assertEqual(told, rule)
            self.assertIs(type(told), tuple)
            self.assertTrue(all(type(heap) is tuple for heap in told))

    def test_each_heaps_text_is_a_rule_of_one(self):
        for heap, text in HEAPS.items():
            self.assertEqual(read_rule(text), (heap,))

    def test_each_other_text_is_refused(self):
        for why, texts in NO_RULES_TEXT.items():
            for text in texts:
                with self.subTest(why=why, text=text):
                    self.assertRaises(NoText, read_rule, text)

    def test_a_heap_within_it_that_is_no_heaps_text(self):
        for why, texts in NO_HEAPS_TEXT.items():
            for text in texts:
                if text in ("no heaps", "3 | 1"):
                    continue
                for rule in (text, text + " | 1", "1 | " + text, "2 | " + text + " | none"):
                    with self.subTest(why=why, rule=rule):
                        self.assertRaises(NoText, read_rule, rule)

    def test_all_short_texts(self):
        for text in short_texts("12 |", 7):
            if FORM_OF_A_RULE.fullmatch(text) and all(map(falls, text.split(" | "))):
                heaps = [tuple(map(int, row.split(" "))) for row in text.split(" | ")]
                self.assertEqual(read_rule(text), tuple(heaps))
            else:
                self.assertRaises(NoText, read_rule, text)


if __name__ == "__main__":
    unittest.main()
