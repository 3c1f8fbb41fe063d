"""Rules (p, q, c), which count (p * t + c) // q events up to time t."""

from leapfit.errors import InvalidRule
from leapfit.floor_sums import floor_sum
from leapfit.integers import check_at_least, check_integer, check_range, gcd, is_integer


def is_rule(value):
    """Whether the value is a rule."""
    if not isinstance(value, tuple) or len(value) != 3:
        return False
    if not all([is_integer(item) for item in value]):
        return False
    return value[0] >= 0 and value[1] >= 1 and gcd(value[0], value[1]) == 1


def check_rule(value):
    """Raise InvalidRule unless the value is a rule."""
    if not is_rule(value):
        raise InvalidRule(value)


def reduce_rule(p, q, c):
    """The rule with the same counts as the triple."""
    check_at_least(p, 0)
    check_at_least(q, 1)
    check_integer(c)
    divisor = gcd(p, q)
    return (p // divisor, q // divisor, c // divisor)


def count(rule, time):
    """The count at a time."""
    check_rule(rule)
    check_integer(time)
    p, q, c = rule
    return (p * time + c) // q


def count_sum(rule, start, stop):
    """The sum of the counts at all times of a range."""
    check_rule(rule)
    check_range(start, stop)
    p, q, c = rule
    return floor_sum(max(0, stop - start), p, p * start + c, q)


def shift_rule(rule, time, amount):
    """The rule whose count at t is the count at t + time, plus amount."""
    check_rule(rule)
    check_integer(time)
    check_integer(amount)
    p, q, c = rule
    return (p, q, p * time + q * amount + c)


def mirror_rule(rule):
    """The rule whose count at t is minus the count at -t."""
    check_rule(rule)
    p, q, c = rule
    return (p, q, q - 1 - c)


def thin_rule(rule, k):
    """The rule whose count at t is the count at t divided by k, rounded down."""
    check_rule(rule)
    check_at_least(k, 1)
    p, q, c = rule
    return reduce_rule(p, q * k, c)


def sample_rule(rule, k):
    """The rule whose count at t is the count at k * t."""
    check_rule(rule)
    check_at_least(k, 1)
    p, q, c = rule
    return reduce_rule(p * k, q, c)
