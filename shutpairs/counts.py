"""How many partings a number has, and how many of them keep a rule."""

from shutpairs.bounds import refuse_beyond
from shutpairs.choices import choices_of, joined_of
from shutpairs.heaps import sum_of
from shutpairs.pairs import sign_of

MOST_COUNTED = 400


def next_way(ways):
    # Of the partings into unlike parts only those of m (3 m - 1) / 2 and m (3 m + 1) / 2 are left
    # over, so the ways of a number are reckoned from those of the lesser numbers.
    n = len(ways)
    total = 0
    sign = 1
    m = 1
    while m * (3 * m - 1) // 2 <= n:
        total += sign * ways[n - m * (3 * m - 1) // 2]
        if m * (3 * m + 1) // 2 <= n:
            total += sign * ways[n - m * (3 * m + 1) // 2]
        sign = -sign
        m += 1
    return total


def ways_to(n):
    ways = [1]
    while len(ways) <= n:
        ways.append(next_way(ways))
    return ways


def ways_of(n):
    if n < 0:
        return 0
    refuse_beyond(n, MOST_COUNTED)
    return ways_to(n)[n]


def count_of(rule, n):
    refuse_beyond(n, MOST_COUNTED)
    ways = ways_to(n)
    total = 0
    for choice in choices_of(rule):
        heap = joined_of(rule, choice)
        if sum_of(heap) <= n:
            total += sign_of((heap, choice)) * ways[n - sum_of(heap)]
    return total
