"""Forecasts: the least and the greatest counts of all rules that fit some records.

A chain is a tuple (before, turns). It gives a line for each time: `before`, and from the time of each of the turns
(time, line) on the line of this turn. A line (slope, offset, divisor) has the value (slope * time + offset) / divisor;
None stands for the times without a bound.
"""

from leapfit.errors import NotPossible
from leapfit.fitting import fits_record, fitting_ends, fitting_rule, low_corners, low_end, rate_ends
from leapfit.implied import follows, opposite
from leapfit.integers import check_integer, divide_up, is_integer
from leapfit.records import are_indexes, check_records, count_records, mirror_records
from leapfit.rules import is_rule

MOST_REASONS = 2


def count_range(records, time):
    """The least and the greatest count at a time, each None if it does not exist."""
    check_records(records)
    check_integer(time)
    return range_at(records, time)


def event_range(records, event):
    """The first time at which some rule has reached the event, and that at which all have, each None without one."""
    check_records(records)
    check_integer(event)
    ends = fitting_ends(records)
    latest = first_reached(least_chain(records, ends), event)
    # Some rule has reached the event at a time if not all mirrored rules have reached 1 - event at minus this time.
    mirrored = first_reached(least_chain(mirror_records(records), ends), 1 - event)
    return (None if mirrored is None else 1 - mirrored, latest)


def witness(records, time, count):
    """A rule that fits the records and has this count at this time."""
    check_records(records)
    check_integer(time)
    check_integer(count)
    fitting_ends(records)
    wanted = list(records) + count_records(time, count)
    if rate_ends(wanted) is None:
        raise NotPossible(count)
    return fitting_rule(wanted)


def certify_range(records, time):
    """A tuple (low, high) that shows why the bounds of the count at a time are what they are."""
    least, greatest = count_range(records, time)
    return (certify_bound(records, "at least", time, least), certify_bound(records, "at most", time, greatest))


def is_range_certificate(records, time, value):
    """Whether the value is such a tuple."""
    least, greatest = count_range(records, time)
    if not isinstance(value, tuple) or len(value) != 2:
        return False
    if not shows_bound(records, "at least", time, least, value[0]):
        return False
    return shows_bound(records, "at most", time, greatest, value[1])


def range_at(records, time):
    """The result of count_range for a list of records of any length."""
    ends = fitting_ends(records)
    low = line_at(least_chain(records, ends), time)
    high = line_at(greatest_chain(records, ends), time)
    return (None if low is None else (low[0] * time + low[1]) // low[2],
            None if high is None else divide_up(high[0] * time + high[1], high[2]))


def certify_bound(records, word, time, bound):
    """A part of a range certificate: the bound, the records from which it follows, and a rule that attains it."""
    if bound is None:
        return None
    reasons = follows(records, (word, time, bound))[1]
    # The last one is the opposite of the bound: without it, nothing conflicts.
    return (bound, reasons[:-1], fitting_rule(list(records) + count_records(time, bound)))


def shows_bound(records, word, time, bound, value):
    """Whether the value is such a part for the bound."""
    if bound is None:
        return value is None
    if not isinstance(value, tuple) or len(value) != 3:
        return False
    number, indexes, rule = value
    if not is_integer(number) or number != bound or not is_rule(rule):
        return False
    if not are_indexes(indexes, len(records)) or len(indexes) > MOST_REASONS:
        return False
    if rate_ends([records[index] for index in indexes] + [opposite((word, time, bound))]) is not None:
        return False
    return all([fits_record(rule, record) for record in list(records) + count_records(time, bound)])


def least_chain(records, ends):
    """The chain whose values, rounded down, are the least counts of the rules that fit; ends are those of the rates.

    The corners bound the counts. Before the first and after the last one, the counts change as at the ends of the
    rates; these do not fit, but rates that are as close to them as is needed do.
    """
    corners = low_corners(records, ends)
    if not corners:
        return (None, [])
    high = ends[1]
    before = None if high is None else line_through(corners[0], high)
    turns = [((t, n), (other_n - n, other_t - t)) for (t, n), (other_t, other_n) in zip(corners, corners[1:])]
    turns.append((corners[-1], low_end(ends)))
    return (before, [(corner[0], line_through(corner, slope)) for corner, slope in turns])


def greatest_chain(records, ends):
    """The chain whose values, rounded up, are the greatest counts of the rules that fit."""
    before, turns = least_chain(mirror_records(records), ends)
    lines = [before] + [line for time, line in turns]
    mirrored = [None if line is None else (line[0], -line[1], line[2]) for line in reversed(lines)]
    # A line reaches up to the mirrored time of its turn, so the next one begins after this time.
    times = [1 - time for time, line in reversed(turns)]
    return (mirrored[0], list(zip(times, mirrored[1:])))


def line_through(point, slope):
    """The line through a point (time, count) with a slope (rise, run)."""
    time, number = point
    rise, run = slope
    return (rise, number * run - rise * time, run)


def line_at(chain, time):
    """The line of a chain at a time, or None."""
    found, turns = chain
    for begin, line in turns:
        if begin > time:
            break
        found = line
    return found


def first_reached(chain, event):
    """The first time at which the values of a least chain have reached the event, or None."""
    before, turns = chain
    if not turns:
        return None
    # The lines bend downwards, so the values have reached the event where all lines have.
    lines = [line for time, line in turns]
    times = []
    if before is None:
        times.append(turns[0][0])
    else:
        lines.append(before)
    for slope, offset, divisor in lines:
        if slope > 0:
            times.append(divide_up(event * divisor - offset, slope))
        elif offset < event * divisor:
            return None
    return max(times)
