"""Two rules side by side: their sums, their weights, and the object that holds two that match."""

from shutpairs.choices import choices_of, joined_of
from shutpairs.errors import NotSoMany, Unmatched
from shutpairs.heaps import often, sum_of, unlike_parts


def sums_of(rule):
    return [(choice, sum_of(joined_of(rule, choice))) for choice in choices_of(rule)]


def holders_of(rule, part, dot):
    return tuple([number for number, heap in enumerate(rule) if often(heap, part) >= dot])


def weights_of(rule):
    weights = {}
    # Each dot weighs for one choice alone: that of all the heaps in which it is there.
    for part in unlike_parts(rule):
        dot = 1
        holders = holders_of(rule, part, dot)
        while len(holders) > 0:
            weights[holders] = weights.get(holders, 0) + part
            dot += 1
            holders = holders_of(rule, part, dot)
    return [(choice, weights.get(choice, 0)) for choice in choices_of(rule) if len(choice) > 0]


def first_unlike(one, other):
    if len(one) != len(other):
        raise NotSoMany("the rules have not as many heaps")
    for row, fellow in zip(sums_of(one), sums_of(other)):
        if row[1] != fellow[1]:
            return (row[0], row[1], fellow[1])
    return None


class Beside:
    def __init__(self, one, other):
        unlike = first_unlike(one, other)
        if unlike is not None:
            raise Unmatched(unlike[0], unlike[1], unlike[2])
        self.one = one
        self.other = other

    def rules(self):
        return (self.one, self.other)

    def back(self):
        return Beside(self.other, self.one)
