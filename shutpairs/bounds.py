"""The one place where a number beyond its bound is refused."""

from shutpairs.errors import NoSum

MOST_BOUND = 400


def refuse_beyond(n, most):
    if n < 0 or n > most:
        raise NoSum(f"the number is not one from 0 to {most}")


def refuse_bound(bound):
    refuse_beyond(bound, MOST_BOUND)
