"""Rules: tuples of none to six heaps, numbered from 0 on, and what keeps them."""

from shutpairs.errors import NoRule, NotKept
from shutpairs.heaps import heap_of, lies_in

MOST_HEAPS = 6


def rule_of(heaps):
    if len(heaps) > MOST_HEAPS:
        raise NoRule("a rule has six heaps at most")
    return tuple([heap_of(parts) for parts in heaps])


def all_in(rule, heap):
    return [number for number, shut in enumerate(rule) if lies_in(shut, heap)]


def first_in(rule, heap):
    return min(all_in(rule, heap), default=None)


def keeps(rule, heap):
    return first_in(rule, heap) is None


def refuse_unkept(rule, heap):
    number = first_in(rule, heap)
    if number is not None:
        raise NotKept(number)
