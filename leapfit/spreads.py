"""Spreads: how far the greatest count of a time is from the least one.

Between the times at which a bound turns, the least counts are the values of one line rounded down, and the greatest
counts are those of another line rounded up. A stretch is a tuple (begin, end, low, high) of such a range of times and
these two lines; a line is None without a bound, and the end of the last stretch may be None.
"""

from leapfit.errors import Unbounded
from leapfit.fitting import fitting_ends
from leapfit.floor_sums import floor_sum
from leapfit.forecasts import count_range, greatest_chain, least_chain, line_at
from leapfit.integers import check_integer, check_range, divide_up, first_between, line_from
from leapfit.records import check_records


def spread(records, time):
    """The greatest minus the least count at a time, or None if one of them does not exist."""
    least, greatest = count_range(records, time)
    return None if least is None or greatest is None else greatest - least


def spread_sum(records, start, stop):
    """The sum of the spreads of all times of a range."""
    check_records(records)
    check_range(start, stop)
    parts = stretches(records, start, stop)
    if not all([is_bounded(part) for part in parts]):
        raise Unbounded()
    return sum([sum_within(part) for part in parts])


def count_settled(records, start, stop):
    """The number of settled times of a range."""
    check_records(records)
    check_range(start, stop)
    parts = [close_part(part) for part in stretches(records, start, stop) if is_bounded(part)]
    # Where the lines are close, the spread is 0 or 1, so its sum is the number of open times.
    return sum([part[1] - part[0] - sum_within(part) for part in parts])


def next_open(records, time):
    """The first open time from the given one on."""
    check_records(records)
    check_integer(time)
    return first_found(records, time, open_within)


def next_settled(records, time):
    """The first settled time from the given one on, or None."""
    check_records(records)
    check_integer(time)
    return first_found(records, time, settled_within)


def stretches(records, start, stop):
    """The stretches of a range, which has no end if stop is None. Raises NoRule."""
    ends = fitting_ends(records)
    if stop is not None and stop <= start:
        return []
    lows = least_chain(records, ends)
    highs = greatest_chain(records, ends)
    turns = sorted(set([time for time, line in lows[1] + highs[1]]))
    times = [time for time in turns if start < time and (stop is None or time < stop)]
    return [(begin, end, line_at(lows, begin), line_at(highs, begin))
            for begin, end in zip([start] + times, times + [stop])]


def is_bounded(part):
    """Whether both bounds exist in a stretch."""
    return part[2] is not None and part[3] is not None


def sum_within(part):
    """The sum of the spreads of a stretch."""
    begin, end, low, high = part
    slope, offset, divisor = line_from(low, begin)
    least = floor_sum(end - begin, slope, offset, divisor)
    slope, offset, divisor = line_from(high, begin)
    # Rounding up is rounding down with the signs exchanged.
    return -floor_sum(end - begin, -slope, -offset, divisor) - least


def close_part(part):
    """The part of a stretch in which the line high is not above the line low; no other time of it is settled."""
    begin, end, low, high = part
    slope = low[0] * high[2] - high[0] * low[2]
    offset = low[1] * high[2] - high[1] * low[2]
    if slope > 0:
        begin = max(begin, divide_up(-offset, slope))
    elif slope < 0:
        end = min(end, offset // -slope + 1)
    elif offset < 0:
        end = begin
    return (begin, max(begin, end), low, high)


def first_found(records, time, finder):
    """The first result of the finder for the stretches from a time on, or None."""
    for part in stretches(records, time, None):
        found = finder(part)
        if found is not None:
            return found
    return None


def open_within(part):
    """The first open time of a stretch, or None: an integer lies above low and less than 1 above high."""
    if not is_bounded(part):
        return part[0]
    begin, end, low, high = part
    return first_time(begin, end, (low[0], low[1] + 1, low[2]), (high[0], high[1] + high[2] - 1, high[2]))


def settled_within(part):
    """The first settled time of a stretch, or None: an integer lies between high and low."""
    if not is_bounded(part):
        return None
    begin, end, low, high = part
    return first_time(begin, end, high, low)


def first_time(begin, end, low, high):
    """The first time from begin on and before end at which an integer lies between two lines, or None."""
    steps = first_between(line_from(low, begin), line_from(high, begin))
    if steps is None or end is not None and begin + steps >= end:
        return None
    return begin + steps
