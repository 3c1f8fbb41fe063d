"""What the other files need of integers: checks of arguments, divisions, integers between two lines."""

from leapfit.errors import InvalidNumber


def is_integer(value):
    """Whether the value is an int and not a bool."""
    return isinstance(value, int) and not isinstance(value, bool)


def check_integer(value):
    """Raise InvalidNumber unless the value is an integer."""
    if not is_integer(value):
        raise InvalidNumber(value)


def check_at_least(value, least):
    """Raise InvalidNumber unless the value is an integer >= least."""
    if not is_integer(value) or value < least:
        raise InvalidNumber(value)


def check_between(value, least, most):
    """Raise InvalidNumber unless the value is an integer from least to most."""
    if not is_integer(value) or not least <= value <= most:
        raise InvalidNumber(value)


def check_range(start, stop):
    """Raise InvalidNumber for the first of the two that is not an integer."""
    check_integer(start)
    check_integer(stop)


def gcd(first, second):
    """The greatest common divisor of two integers >= 0."""
    while second:
        first, second = second, first % second
    return first


def divide_up(number, divisor):
    """The quotient rounded up; the divisor is positive."""
    return -(-number // divisor)


def first_hit(step, place, modulus, arc):
    """The least n >= 0 for which the remainder of place + step * n by the modulus is in the arc, or None.

    The arc is a tuple (low, high) with 0 <= low <= high < modulus; both ends belong to it.
    """
    low, high = arc
    return first_between((step, place - high, modulus), (step, place - low, modulus))


def first_between(low, high):
    """The least x >= 0 for which an integer lies between two lines, or None.

    A line is a tuple (slope, offset, divisor) with the value (slope * x + offset) / divisor at x. The integer may lie
    on the lines. Where the line low is above the line high, nothing lies between them.
    """
    gap = low[1] * high[2] - high[1] * low[2]
    gain = high[0] * low[2] - low[0] * high[2]
    if gap <= 0:
        return first_inside(low, high)
    if gain <= 0:
        return None
    # Nothing lies between the lines before they cross.
    start = divide_up(gap, gain)
    return start + first_inside(line_from(low, start), line_from(high, start))


def line_from(line, start):
    """The same line, with x counted from the start."""
    slope, offset, divisor = line
    return (slope, slope * start + offset, divisor)


def first_inside(low, high):
    """The same, if it is not so that low is above high at 0 and below it later.

    If no integer lies between the lines at 0, they start between two integers, called 0 and 1 here, or low stays above
    high and nothing is found. If an integer slope lies between their slopes, they part at this slope, or they come
    together and nothing is found. Otherwise both rise after a whole number is subtracted from their slopes, and 1 is
    what they meet first. Then the lines are read the other way round, as x for each y: the least y with an integer x
    between the lines also has the least x.
    """
    levels = []
    while True:
        a, b, m = low
        c, d, n = high
        upper = divide_up(b, m)
        if upper * n <= d:
            x = 0
            break
        b, d = b - (upper - 1) * m, d - (upper - 1) * n
        slope = divide_up(a, m)
        if slope * n <= c:
            x = first_exit((slope * m - a, b), (c - slope * n, n - d))
            break
        if c <= (slope - 1) * n:
            return None
        low = (n, n - d, c - (slope - 1) * n)
        high = (m, m - b, a - (slope - 1) * m)
        levels.append(low)
    if x is None:
        return None
    for slope, offset, divisor in reversed(levels):
        x = divide_up(slope * x + offset, divisor)
    return x


def first_exit(fall, rise):
    """The least x at which one of two ways has been covered, or None; a tuple gives the speed and the way."""
    times = [divide_up(way, speed) for speed, way in (fall, rise) if speed > 0]
    return min(times, default=None)
