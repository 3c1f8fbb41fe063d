"""What the other files need of integers: checks of arguments, the greatest common divisor, steps round a circle."""

from leapfit.errors import InvalidNumber


def is_integer(value):
    """Whether the value is an int and not a bool."""
    return isinstance(value, int) and not isinstance(value, bool)


def check_integer(value):
    """Raise InvalidNumber unless the value is an integer."""
    if not is_integer(value):
        raise InvalidNumber(value)


def check_at_least(value, least):
    """Raise InvalidNumber unless the value is an integer >= least."""
    if not is_integer(value) or value < least:
        raise InvalidNumber(value)


def check_below(value, limit):
    """Raise InvalidNumber unless the value is an integer from 0 to limit - 1."""
    if not is_integer(value) or not 0 <= value < limit:
        raise InvalidNumber(value)


def check_range(start, stop):
    """Raise InvalidNumber for the first of the two that is not an integer."""
    check_integer(start)
    check_integer(stop)


def gcd(first, second):
    """The greatest common divisor of two integers >= 0."""
    while second:
        first, second = second, first % second
    return first


def divide_up(number, divisor):
    """The quotient rounded up; the divisor is positive."""
    return -(-number // divisor)


def first_hit(step, place, modulus, arc):
    """The least n >= 0 for which the remainder of place + step * n by the modulus is in the arc, or None.

    The arc is a tuple (low, high) with 0 <= low <= high < modulus; both ends belong to it.
    """
    low, high = arc
    if low <= place % modulus <= high:
        return 0
    # Seen from the place, the arc does not contain 0, so it does not wrap round.
    near = (low - place) % modulus
    return first_multiple(step % modulus, modulus, near, near + high - low)


def first_multiple(step, modulus, low, high):
    """The same from the place 0, for an arc from low to high that does not contain it.

    If no n of the first turn round the circle will do, the number of turns is the answer to the same question
    on a circle of the length of a step.
    """
    levels = []
    while True:
        # Going round the other way keeps the step at most half a circle, so the circles shrink quickly.
        if 2 * step > modulus:
            step, low, high = modulus - step, modulus - high, modulus - low
        if step == 0:
            return None
        number = divide_up(low, step)
        if number * step <= high:
            break
        levels.append((step, modulus, low))
        step, modulus, low, high = -modulus % step, step, low % step, high % step
    for step, modulus, low in reversed(levels):
        number = divide_up(low + modulus * number, step)
    return number
