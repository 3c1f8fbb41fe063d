"""Sums of rounded quotients, and what is counted with them."""

from leapfit.integers import check_at_least, check_integer


def floor_sum(number, slope, offset, divisor):
    """The sum of (slope * i + offset) // divisor for i from 0 to number - 1."""
    check_at_least(number, 0)
    check_integer(slope)
    check_integer(offset)
    check_at_least(divisor, 1)
    total = 0
    while number > 0:
        whole, slope = divmod(slope, divisor)
        total += whole * (number * (number - 1) // 2)
        whole, offset = divmod(offset, divisor)
        total += whole * number
        # What is left counts the points of a grid below a line; the next round counts them by columns, not rows.
        number, offset = divmod(slope * number + offset, divisor)
        slope, divisor = divisor, slope
    return total


def count_hits(number, step, place, modulus, arc):
    """For how many n from 0 to number - 1 the remainder of place + step * n by the modulus is in the arc.

    The arc is a tuple (low, high) with 0 <= low <= high < modulus; both ends belong to it.
    """
    low, high = arc
    return floor_sum(number, step, place - low, modulus) - floor_sum(number, step, place - high - 1, modulus)
