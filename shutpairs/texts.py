"""Heaps and rules written as texts, and read back."""

from shutpairs.errors import NoText
from shutpairs.heaps import MOST_PARTS, heap_of
from shutpairs.rules import MOST_HEAPS

FIGURES = "0123456789"
MOST_FIGURES = 60


def heap_text(heap):
    if len(heap) == 0:
        return "none"
    return " ".join([str(part) for part in heap])


def writes_number(word):
    if len(word) == 0 or len(word) > MOST_FIGURES or word[0] == "0":
        return False
    # int and isdigit take other signs too, so each sign is looked up among the ten figures.
    return all([sign in FIGURES for sign in word])


def read_heap(text):
    if text == "none":
        return ()
    words = text.split(" ")
    if len(words) > MOST_PARTS:
        raise NoText("a heap's text has too many numbers")
    for word in words:
        if not writes_number(word):
            raise NoText("a heap's text has something that is no number")
    heap = tuple([int(word) for word in words])
    if heap != heap_of(heap):
        raise NoText("a heap's text has rising parts")
    return heap


def rule_text(rule):
    if len(rule) == 0:
        return "no heaps"
    return " | ".join([heap_text(heap) for heap in rule])


def read_rule(text):
    if text == "no heaps":
        return ()
    rows = text.split(" | ")
    if len(rows) > MOST_HEAPS:
        raise NoText("a rule's text has too many heaps")
    return tuple([read_heap(row) for row in rows])
