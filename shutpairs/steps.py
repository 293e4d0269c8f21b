"""The two steps of the walk: a place crossed to the other side, and toggled on its own."""

from shutpairs.choices import joined_of
from shutpairs.errors import NoPair, NotPaired
from shutpairs.heaps import put, taken
from shutpairs.pairs import is_pair, partner_of


def rule_on(sided, side):
    if side not in (1, 2):
        raise NoPair("a place is on side 1 or on side 2")
    return sided.rules()[side - 1]


def crossed(sided, place):
    side = place[0]
    heap = place[1]
    choice = place[2]
    here = rule_on(sided, side)
    if not is_pair(here, (heap, choice)):
        raise NoPair("the heap and the choice are no pair of the side's rule")
    beyond = rule_on(sided, 3 - side)
    rest = taken(joined_of(here, choice), heap)
    return (3 - side, put(rest, joined_of(beyond, choice)), choice)


def toggled(sided, place):
    side = place[0]
    partner = partner_of(rule_on(sided, side), (place[1], place[2]))
    if partner is None:
        raise NotPaired("the heap keeps the side's rule")
    return (side, partner[0], partner[1])
