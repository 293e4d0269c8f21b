"""Two rules that match, made of lanes and levels, or of numbers that stand often."""

from shutpairs.errors import NoLanes, TooGreat
from shutpairs.heaps import MOST_PARTS, heap_of


def refuse_alike(numbers):
    if len(set(numbers)) < len(numbers):
        raise NoLanes("two numbers on one side are alike")


def greatest_divisor(one, other):
    while other > 0:
        rest = one % other
        one = other
        other = rest
    return one


def times_in(lane, level):
    return level * (lane[1] // greatest_divisor(lane[0], lane[1]))


def heap_on(lanes, row):
    # Counted ahead, so that no heap is made that is too great.
    if sum([times_in(lane, level) for lane, level in zip(lanes, row)]) > MOST_PARTS:
        raise TooGreat("a heap would have more than sixty parts")
    parts = []
    for lane, level in zip(lanes, row):
        parts.extend([lane[0]] * times_in(lane, level))
    return heap_of(parts)


def lanes_pair(lanes, levels):
    refuse_alike([lane[0] for lane in lanes])
    refuse_alike([lane[1] for lane in lanes])
    # The second rule is the first one of the lanes with left and right exchanged.
    back = [(lane[1], lane[0]) for lane in lanes]
    one = tuple([heap_on(lanes, row) for row in levels])
    other = tuple([heap_on(back, row) for row in levels])
    return (one, other)


def often_pair(times, numbers):
    refuse_alike(numbers)
    one = tuple([(number,) * times for number in numbers])
    other = tuple([(times * number,) for number in numbers])
    return (one, other)
