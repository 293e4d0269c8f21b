"""The walk from a heap that keeps the one rule to the heap that keeps the other."""

from shutpairs.bounds import refuse_beyond
from shutpairs.errors import TooLong
from shutpairs.heaps import sum_of
from shutpairs.lists import kept_of
from shutpairs.rules import keeps, refuse_unkept
from shutpairs.steps import crossed, toggled

MOST_ENDED = 24
MOST_MET = 16


def is_end(sided, place):
    return place[0] == 2 and keeps(sided.rules()[1], place[1])


def next_place(sided, walk):
    # Each place that was begun with or toggled to stands at an odd count, and is yet to be crossed.
    if len(walk) % 2 == 1:
        return crossed(sided, walk[-1])
    return toggled(sided, walk[-1])


def first_places(sided, heap, most):
    walk = [(1, heap, ())]
    while not is_end(sided, walk[-1]) and (most is None or len(walk) < most):
        walk.append(next_place(sided, walk))
    return walk


def walk_of(sided, heap, most=1000):
    refuse_unkept(sided.rules()[0], heap)
    walk = first_places(sided, heap, most)
    if not is_end(sided, walk[-1]):
        raise TooLong(walk[-1])
    return walk


def whole_walk(sided, heap):
    refuse_beyond(sum_of(heap), MOST_ENDED)
    refuse_unkept(sided.rules()[0], heap)
    return first_places(sided, heap, None)


def end_of(sided, heap):
    return whole_walk(sided, heap)[-1][1]


def meetings_of(sided, n):
    refuse_beyond(n, MOST_MET)
    return [(heap, end_of(sided, heap)) for heap in kept_of(sided.rules()[0], n)]


def is_walk(sided, rows):
    if len(rows) == 0:
        return False
    heap = rows[0][1]
    if not keeps(sided.rules()[0], heap):
        return False
    # One place more than there are rows tells a walk that goes on behind them.
    return first_places(sided, heap, len(rows) + 1) == rows
