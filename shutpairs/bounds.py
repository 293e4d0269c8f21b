"""The one place where a number beyond its bound is refused."""

from shutpairs.errors import NoSum


def refuse_beyond(n, most):
    if n < 0 or n > most:
        raise NoSum(f"the number is not one from 0 to {most}")
