"""How many events the windows of one width contain."""

from leapfit.floor_sums import count_hits
from leapfit.integers import check_at_least, check_integer, check_range, divide_up, first_hit
from leapfit.rules import check_rule


def window_range(rule, width):
    """The least and the greatest number of events of the windows."""
    check_rule(rule)
    check_at_least(width, 0)
    p, q, c = rule
    # p and q have no common divisor, so p * t + c leaves every remainder by q, and both roundings occur.
    return (p * width // q, divide_up(p * width, q))


def full_windows(rule, width, start, stop):
    """The number of full windows whose start is in a range."""
    arc = full_arc(rule, width)
    check_range(start, stop)
    p, q, c = rule
    return count_hits(max(0, stop - start), p, p * start + c, q, arc)


def next_full(rule, width, start):
    """The least start from the given one on of a full window."""
    arc = full_arc(rule, width)
    check_integer(start)
    p, q, c = rule
    return start + first_hit(p, p * start + c, q, arc)


def full_arc(rule, width):
    """The remainders of p * t + c by q at the starts t of full windows."""
    least, greatest = window_range(rule, width)
    p, q, c = rule
    return (q * greatest - p * width, q - 1)
