"""Signed pairs: a heap with a choice of the rule's heaps that lie in it, and its partner."""

from shutpairs.bounds import refuse_beyond
from shutpairs.choices import choices_among
from shutpairs.errors import NoPair
from shutpairs.heaps import lies_in
from shutpairs.lists import partings_of
from shutpairs.rules import all_in, first_in

MOST_PAIRED = 16


def sign_of(pair):
    return 1 if len(pair[1]) % 2 == 0 else -1


def is_choice(rule, choice):
    least = 0
    for number in choice:
        if number < least or number >= len(rule):
            return False
        least = number + 1
    return True


def is_pair(rule, pair):
    if not is_choice(rule, pair[1]):
        return False
    return all([lies_in(rule[number], pair[0]) for number in pair[1]])


def partner_of(rule, pair):
    if not is_pair(rule, pair):
        raise NoPair("this is no pair of the rule")
    heap = pair[0]
    choice = pair[1]
    number = first_in(rule, heap)
    if number is None:
        return None
    # All chosen heaps lie in the heap, so the least number stands first in the choice or not at all.
    if number in choice:
        return (heap, choice[1:])
    return (heap, (number,) + choice)


def pairs_of(rule, n):
    refuse_beyond(n, MOST_PAIRED)
    pairs = []
    for heap in partings_of(n):
        pairs.extend([(heap, choice) for choice in choices_among(all_in(rule, heap))])
    return pairs
