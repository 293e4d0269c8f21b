"""The partings of a number, falling: all of them, those that keep a rule, and their places."""

from shutpairs.bounds import refuse_beyond
from shutpairs.errors import NoPlace
from shutpairs.heaps import sum_of
from shutpairs.rules import keeps, refuse_unkept

MOST_LISTED = 24


def partings_to(n, greatest):
    if n == 0:
        return [()]
    partings = []
    # The greatest first part comes first, so the partings come out falling.
    for part in range(min(n, greatest), 0, -1):
        partings.extend([(part,) + rest for rest in partings_to(n - part, part)])
    return partings


def partings_of(n):
    refuse_beyond(n, MOST_LISTED)
    return partings_to(n, n)


def kept_of(rule, n):
    return [heap for heap in partings_of(n) if keeps(rule, heap)]


def by_parts(rule, n):
    lengths = [len(heap) for heap in kept_of(rule, n)]
    return [lengths.count(k) for k in range(n + 1)]


def place_of(rule, heap):
    refuse_beyond(sum_of(heap), MOST_LISTED)
    refuse_unkept(rule, heap)
    return kept_of(rule, sum_of(heap)).index(heap)


def told_at(rule, n, place):
    heaps = kept_of(rule, n)
    if place < 0 or place >= len(heaps):
        raise NoPlace("no parting that keeps the rule has this place")
    return heaps[place]
