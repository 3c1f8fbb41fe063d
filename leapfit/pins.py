"""Pins: at most three records that single out one rule among all rules with cycles up to a bound."""

from leapfit.fitting import phase_ends, rate_ends
from leapfit.fractions import simplest_between
from leapfit.integers import check_between, first_hit
from leapfit.records import is_record
from leapfit.rules import check_rule

MOST_CYCLE = 10 ** 60
MOST_PINS = 3


def pins(rule, most):
    """Pins of the rule for cycles up to most."""
    check_pinned(rule, most)
    p, q, c = rule
    # Where the quotient is whole, the rule only just fits "at least"; where its remainder is q - 1, it only just fits
    # "at most", and the line may rise by less than 1 / q there. Another rate with a cycle up to most differs from p / q
    # by at least 1 / (q * most), which is too much at a distance of most on one of the two sides. With the same rate,
    # another c is too small at the middle or too great at the sides.
    middle = first_hit(p, c, q, (0, 0))
    later = middle + most
    later += first_hit(p, p * later + c, q, (q - 1, q - 1))
    earlier = middle - most
    earlier -= first_hit(-p, p * earlier + c, q, (q - 1, q - 1))
    return [pin("at most", rule, earlier), pin("at least", rule, middle), pin("at most", rule, later)]


def are_pins(rule, most, value):
    """Whether the value is a list of pins of the rule for cycles up to most."""
    check_pinned(rule, most)
    if not isinstance(value, (list, tuple)) or len(value) > MOST_PINS:
        return False
    if not all([is_record(item) for item in value]):
        return False
    p, q, c = rule
    if phase_ends(value, (p, q)) != (c, c):
        return False
    # The rule fits, and no other one of its rate. All rates between the ends fit.
    low, high = rate_ends(value)
    return is_first_rate(low, (p, q), most) and simplest_between((p, q), high)[1] > most


def check_pinned(rule, most):
    """Raise the error for the first of the two arguments that is not valid."""
    check_rule(rule)
    check_between(most, rule[1], MOST_CYCLE)


def pin(word, rule, time):
    """The record of this kind with the count of the rule at this time."""
    p, q, c = rule
    return (word, time, (p * time + c) // q)


def is_first_rate(low, rate, most):
    """Whether no rate that fits is less than the given one and has a cycle up to most; low is the lower end."""
    if low is None:
        return rate == (0, 1)
    return simplest_between(low, rate)[1] > most
