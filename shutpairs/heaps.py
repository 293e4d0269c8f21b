"""Heaps: tuples of whole numbers from 1 on, none greater than the one ahead of it."""

from shutpairs.errors import NoHeap, NotIn

MOST_PARTS = 60


def heap_of(parts):
    for part in parts:
        if part < 1:
            raise NoHeap(part)
    return tuple(sorted(parts, reverse=True))


def sum_of(heap):
    return sum(heap)


def often(heap, part):
    return heap.count(part)


def lies_in(one, other):
    for part in one:
        if often(other, part) < often(one, part):
            return False
    return True


def unlike_parts(heaps):
    # A dict of True stands in for a set, which may not be kept.
    seen = {}
    for heap in heaps:
        for part in heap:
            seen[part] = True
    return sorted(seen, reverse=True)


def joined(heaps):
    parts = []
    for part in unlike_parts(heaps):
        parts.extend([part] * max([often(heap, part) for heap in heaps]))
    return tuple(parts)


def met(heaps):
    parts = []
    for part in unlike_parts(heaps):
        parts.extend([part] * min([often(heap, part) for heap in heaps]))
    return tuple(parts)


def put(one, other):
    return heap_of(one + other)


def taken(one, other):
    if not lies_in(one, other):
        raise NotIn("the heap to be taken out does not lie in the other one")
    parts = list(other)
    for part in one:
        parts.remove(part)
    return tuple(parts)
