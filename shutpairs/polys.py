"""Polynomials as tuples of whole numbers, the power 0 first, and the heads of a fraction of two."""

from shutpairs.bounds import refuse_bound
from shutpairs.errors import NoBottom


def trimmed(numbers):
    length = len(numbers)
    while length > 0 and numbers[length - 1] == 0:
        length -= 1
    return tuple(numbers[:length])


def at_power(poly, power):
    return poly[power] if power < len(poly) else 0


def poly_times(one, other):
    numbers = [0] * (len(one) + len(other))
    for power, number in enumerate(one):
        for step, factor in enumerate(other):
            numbers[power + step] += number * factor
    return trimmed(numbers)


def poly_plus(one, other):
    length = max(len(one), len(other))
    return trimmed([at_power(one, power) + at_power(other, power) for power in range(length)])


def next_head(top, bottom, told):
    # The bottom begins with 1, so the number that is asked for stands alone, without a factor.
    n = len(told)
    reach = min(n, len(bottom) - 1)
    return at_power(top, n) - sum([bottom[j] * told[n - j] for j in range(1, reach + 1)])


def heads(top, bottom, bound):
    if at_power(bottom, 0) != 1:
        raise NoBottom("the first number of the bottom is not 1")
    refuse_bound(bound)
    told = []
    while len(told) <= bound:
        told.append(next_head(top, bottom, told))
    return told
