"""Rules that fit records: the rates that they have, and the phases c at each rate.

An "at least" record (t, n) and an "at most" record (u, m) bound the rates by (n - m - 1) / (t - u), from below if t > u
and from above if t < u.
"""

from leapfit.errors import NoRule
from leapfit.fractions import check_rate, reduce_rate, simplest_between
from leapfit.records import check_records
from leapfit.rules import check_rule


def fits(rule, records):
    """Whether the rule fits all records."""
    check_rule(rule)
    check_records(records)
    return all([fits_record(rule, record) for record in records])


def rates(records):
    """None if no rule fits, otherwise a tuple (low, high) of the excluded ends of the rates that fit."""
    check_records(records)
    return rate_ends(records)


def phases(records, rate):
    """None if the rate does not fit, otherwise a tuple of the least and the greatest c, each None without a bound."""
    check_records(records)
    check_rate(rate)
    if not rate_fits(records, rate):
        return None
    return phase_ends(records, rate)


def fits_record(rule, record):
    """Whether the rule fits the record."""
    p, q, c = rule
    word, time, number = record
    reached = (p * time + c) // q
    return reached >= number if word == "at least" else reached <= number


def split_records(records):
    """The "at least" and the "at most" records, as two lists of tuples (index, time, count)."""
    lows = [(i, t, n) for i, (word, t, n) in enumerate(records) if word == "at least"]
    highs = [(j, u, m) for j, (word, u, m) in enumerate(records) if word == "at most"]
    return (lows, highs)


def tight_pairs(records):
    """The pairs of records that bound the rates most tightly, as a tuple (lower, upper).

    Each is None without such a pair, otherwise a tuple (p, q, i, j): the bound p / q, which may be negative, and the
    indexes of the "at least" and the "at most" record.
    """
    lows, highs = split_records(records)
    return tighter_pairs((None, None), lows, highs)


def tighter_pairs(pairs, lows, highs):
    """The tightest ones of such a tuple of pairs and of all pairs of these "at least" and "at most" records."""
    lower, upper = pairs
    for i, t, n in lows:
        for j, u, m in highs:
            if u < t:
                if lower is None or (n - m - 1) * lower[1] > lower[0] * (t - u):
                    lower = (n - m - 1, t - u, i, j)
            elif t < u or n > m:
                # Records of one time bound no rate. If they conflict, any bound that is not positive says so.
                bottom = max(1, u - t)
                if upper is None or (m + 1 - n) * upper[1] < upper[0] * bottom:
                    upper = (m + 1 - n, bottom, i, j)
    return (lower, upper)


def pairs_with(pairs, records, record):
    """The tightest pairs of some records, whose pairs are known, and a further one, which is given the index 0."""
    lows, highs = split_records(records)
    new_lows, new_highs = split_records([record])
    return tighter_pairs(tighter_pairs(pairs, new_lows, highs), lows, new_highs)


def leave_no_rate(pairs):
    """Whether no rate >= 0 is between the bounds of such a tuple of pairs."""
    lower, upper = pairs
    if upper is None:
        return False
    return upper[0] <= 0 or lower is not None and lower[0] * upper[1] >= upper[0] * lower[1]


def rate_ends(records):
    """The result of rates for a list of records of any length."""
    pairs = tight_pairs(records)
    if leave_no_rate(pairs):
        return None
    lower, upper = pairs
    low = None if lower is None or lower[0] < 0 else reduce_rate(lower[0], lower[1])
    high = None if upper is None else reduce_rate(upper[0], upper[1])
    return (low, high)


def fitting_ends(records):
    """The same, but NoRule is raised if no rule fits."""
    ends = rate_ends(records)
    if ends is None:
        raise NoRule()
    return ends


def phase_ends(records, rate):
    """The greatest lower and the least upper bound of c at a rate, each None if there is none."""
    p, q = rate
    lows, highs = split_records(records)
    least = max([n * q - p * t for i, t, n in lows], default=None)
    greatest = min([(m + 1) * q - p * u - 1 for j, u, m in highs], default=None)
    return (least, greatest)


def rate_fits(records, rate):
    """Whether some rule with this rate fits the records."""
    least, greatest = phase_ends(records, rate)
    return least is None or greatest is None or least <= greatest


def fitting_rule(records):
    """The least rule that fits a list of records of any length; NoRule is raised if no rule fits."""
    low, high = fitting_ends(records)
    p, q = simplest_between(low, high)
    least, greatest = phase_ends(records, (p, q))
    if least is not None:
        return (p, q, least)
    return (p, q, 0 if greatest is None else greatest)


def low_corners(records, ends):
    """The points (time, count) of the "at least" records that bound c at some rate between the ends, by time.

    The slopes of the upper hull of these points fall from one edge to the next. At a rate between the slopes of two
    neighbouring edges, the corner where they meet bounds c.
    """
    corners = upper_hull([(t, n) for word, t, n in records if word == "at least"])
    edges = list(zip(corners, corners[1:]))
    low, high = ends
    first = 0 if high is None else len([edge for edge in edges if steepness(edge, high) >= 0])
    last = len([edge for edge in edges if steepness(edge, low_end(ends)) > 0])
    return corners[first:last + 1]


def low_end(ends):
    """The lower end of the rates, whether or not it fits."""
    return (0, 1) if ends[0] is None else ends[0]


def steepness(edge, rate):
    """Positive, zero or negative, as the slope of an edge is greater than, equal to or less than the rate."""
    (t, n), (other_t, other_n) = edge
    return (other_n - n) * rate[1] - rate[0] * (other_t - t)


def upper_hull(points):
    """The corners, by time, of the lowest line that bends downwards only and has no point above it."""
    corners = []
    for point in sorted(points):
        while corners and hides_last(corners, point):
            corners.pop()
        corners.append(point)
    return corners


def hides_last(corners, point):
    """Whether the last corner is no corner any more beside a point that is not earlier and not below at its time."""
    t, n = corners[-1]
    if t == point[0]:
        return True
    if len(corners) == 1:
        return False
    before, number = corners[-2]
    return (n - number) * (point[0] - t) <= (point[1] - n) * (t - before)
