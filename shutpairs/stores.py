"""Stores: parts with the most times each may stand, and the fraction whose heads count their partings."""

from shutpairs.heaps import often
from shutpairs.polys import heads, poly_plus


def is_of_store(store, heap):
    mosts = dict(store)
    for part in heap:
        if part not in mosts:
            return False
        if mosts[part] is not None and often(heap, part) > mosts[part]:
            return False
    return True


def product_of(powers):
    poly = (1,)
    # Multiplied with 1 - x ** power, a polynomial is lessened by itself, moved up by that power.
    for power in powers:
        poly = poly_plus(poly, (0,) * power + tuple([-number for number in poly]))
    return poly


def top_of(store):
    return product_of([row[0] * (row[1] + 1) for row in store if row[1] is not None])


def bottom_of(store):
    return product_of([row[0] for row in store])


def numbers_of(store, bound):
    return heads(top_of(store), bottom_of(store), bound)
