"""Heaps shown as rows of dots, read back, and turned about."""

from shutpairs.errors import NoText

DOT = "o"


def dots_of(heap):
    return [DOT * part for part in heap]


def read_dots(rows):
    parts = []
    for row in rows:
        if len(row) == 0 or row != DOT * len(row):
            raise NoText("a row shows no part")
        if len(parts) > 0 and len(row) > parts[-1]:
            raise NoText("a row is longer than the one ahead of it")
        parts.append(len(row))
    return tuple(parts)


def at_least(heap, k):
    return len([part for part in heap if part >= k])


def turned(heap):
    greatest = max(heap, default=0)
    return tuple([at_least(heap, k) for k in range(1, greatest + 1)])
