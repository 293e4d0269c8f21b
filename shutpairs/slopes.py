"""Strict heaps: their least part and slope, how they are shifted, and which are left over."""

from shutpairs.bounds import refuse_beyond
from shutpairs.errors import LeftOver, NotStrict

MOST_LEFT = 5000


def is_strict(heap):
    return len(set(heap)) == len(heap)


def refuse_unstrict(heap):
    if not is_strict(heap):
        raise NotStrict("a part stands twice in the heap")


def refuse_partless(heap):
    if len(heap) == 0:
        raise NotStrict("the heap has no part")


def least_part(heap):
    refuse_unstrict(heap)
    refuse_partless(heap)
    return heap[-1]


def slope_of(heap):
    refuse_unstrict(heap)
    refuse_partless(heap)
    slope = 1
    while slope < len(heap) and heap[slope] == heap[slope - 1] - 1:
        slope += 1
    return slope


def is_left(heap):
    if len(heap) == 0:
        return True
    return slope_of(heap) == len(heap) and least_part(heap) in (len(heap), len(heap) + 1)


def shifted(heap):
    if is_left(heap):
        raise LeftOver("the heap is left over")
    least = least_part(heap)
    slope = slope_of(heap)
    # A heap with as many parts as its least part, all in its slope, is left over: so the part that
    # is taken away is none of those that grow.
    if least <= slope:
        return tuple([part + 1 for part in heap[:least]]) + heap[least:-1]
    return tuple([part - 1 for part in heap[:slope]]) + heap[slope:] + (slope,)


def left_one(n):
    if n < 0:
        return None
    refuse_beyond(n, MOST_LEFT)
    m = 0
    while m * (3 * m - 1) // 2 <= n:
        if m * (3 * m - 1) // 2 == n:
            return tuple(range(2 * m - 1, m - 1, -1))
        if m * (3 * m + 1) // 2 == n:
            return tuple(range(2 * m, m, -1))
        m += 1
    return None
