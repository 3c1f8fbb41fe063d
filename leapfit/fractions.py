"""Rates (p, q) in lowest terms, and the simplest one between two others."""

from leapfit.errors import InvalidRate
from leapfit.integers import gcd, is_integer


def is_rate(value):
    """Whether the value is a rate."""
    if not isinstance(value, tuple) or len(value) != 2:
        return False
    if not is_integer(value[0]) or not is_integer(value[1]):
        return False
    return value[0] >= 0 and value[1] >= 1 and gcd(value[0], value[1]) == 1


def check_rate(value):
    """Raise InvalidRate unless the value is a rate."""
    if not is_rate(value):
        raise InvalidRate(value)


def reduce_rate(p, q):
    """The rate p / q in lowest terms; p >= 0 and q >= 1."""
    divisor = gcd(p, q)
    return (p // divisor, q // divisor)


def simplest_between(low, high):
    """The rate with the least denominator, then the least numerator, strictly between two rates or None."""
    if low is not None:
        check_rate(low)
    if high is not None:
        check_rate(high)
        p, q = (0, 1) if low is None else low
        if high[0] * q <= p * high[1]:
            raise InvalidRate(high)
    if low is None:
        return (0, 1)
    return simplest_inside(low, (1, 0) if high is None else high)


def simplest_inside(low, high):
    """The same for a lower end and a greater upper end, which may be 1 / 0.

    If there is no integer between the ends, all fractions between them have the same whole part, and what is left of
    the simplest one is 1 divided by the simplest fraction between what is left of the ends, each 1 divided by it.
    """
    p, q = low
    top, bottom = high
    wholes = []
    whole = p // q
    while (whole + 1) * bottom >= top:
        wholes.append(whole)
        p, q, top, bottom = bottom, top - whole * bottom, q, p - whole * q
        whole = p // q
    numerator, denominator = whole + 1, 1
    for whole in reversed(wholes):
        numerator, denominator = whole * numerator + denominator, numerator
    return (numerator, denominator)
