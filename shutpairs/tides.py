"""The signs of the strict partings of each number up to a bound, and these multiplied with the ways."""

from shutpairs.bounds import refuse_bound
from shutpairs.counts import ways_to


def signs_to(bound):
    refuse_bound(bound)
    signs = [1] + [0] * bound
    # Each further part is there or not, and turns the sign where it is; from above, so that none is there twice.
    for part in range(1, bound + 1):
        for n in range(bound, part - 1, -1):
            signs[n] -= signs[n - part]
    return signs


def signed_way(signs, ways, n):
    return sum([signs[j] * ways[n - j] for j in range(n + 1)])


def signed_ways_to(bound):
    signs = signs_to(bound)
    ways = ways_to(bound)
    return [signed_way(signs, ways, n) for n in range(bound + 1)]
