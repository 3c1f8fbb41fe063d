"""Two rules: when one is ahead of the other, and when their counts are equal.

The gap at time t is the difference of the two quotients before they are rounded down. It changes evenly with t, and the
lead differs from it by less than 1.
"""

from leapfit.integers import check_at_least, check_integer, check_range, divide_up, first_between
from leapfit.rules import check_rule, count, count_sum, mirror_rule

FEW = 20


def compare_counts(first, second, start, stop):
    """The numbers of times of a range at which the lead is positive, zero, negative."""
    check_rules(first, second)
    check_range(start, stop)
    stop = max(start, stop)
    ahead = times_ahead(first, second, start, stop)
    behind = times_ahead(second, first, start, stop)
    return (ahead, stop - start - ahead - behind, behind)


def first_lead(first, second, start, amount):
    """The least time from start on at which the lead is at least amount, or None."""
    check_rules(first, second)
    check_integer(start)
    check_integer(amount)
    steps = steps_to_lead(first, second, start, 1, amount)
    if steps is None:
        return None
    return start + steps


def last_lead(first, second, stop, amount):
    """The greatest time before stop at which the lead is at least amount, or None."""
    check_rules(first, second)
    check_integer(stop)
    check_integer(amount)
    steps = steps_to_lead(first, second, stop - 1, -1, amount)
    if steps is None:
        return None
    return stop - 1 - steps


def lead_range(first, second, start, stop):
    """The least and the greatest lead at the times of a range."""
    check_rules(first, second)
    check_integer(start)
    check_at_least(stop, start + 1)
    return (-greatest_lead(second, first, start, stop), greatest_lead(first, second, start, stop))


def first_difference(first, second, start):
    """The least time from start on with a lead other than 0, or None."""
    times = [first_lead(first, second, start, 1), first_lead(second, first, start, 1)]
    return min([time for time in times if time is not None], default=None)


def last_difference(first, second, stop):
    """The greatest time before stop with a lead other than 0, or None."""
    times = [last_lead(first, second, stop, 1), last_lead(second, first, stop, 1)]
    return max([time for time in times if time is not None], default=None)


def nth_agreement(first, second, start, number):
    """The time of the agreement with this number among the times from start on with equal counts, or None."""
    check_rules(first, second)
    check_integer(start)
    check_at_least(number, 0)
    if first[:2] == second[:2]:
        each = cycle_agreements(first, second)
        if each == 0:
            return None
        start += number // each * first[1]
        return search_agreement(first, second, start, start + first[1], number % each)
    begin, stop = close_times(first, second)
    start = max(start, begin)
    if compare_counts(first, second, start, stop)[1] <= number:
        return None
    return search_agreement(first, second, start, stop, number)


def all_agreements(first, second):
    """How many times with equal counts there are, and which ones."""
    check_rules(first, second)
    if first[:2] == second[:2]:
        each = cycle_agreements(first, second)
        return ("periodic", each, first[1]) if each > 0 else ("none",)
    begin, end = close_times(first, second)
    earliest = next_agreement(first, second, begin)
    if earliest is None:
        return ("none",)
    latest = -next_agreement(mirror_rule(first), mirror_rule(second), 1 - end)
    return ("finite", earliest, latest, compare_counts(first, second, earliest, latest + 1)[1])


def check_rules(first, second):
    """Raise InvalidRule for the first of the two that is not a rule."""
    check_rule(first)
    check_rule(second)


def gap_line(first, second):
    """The gap as a tuple (slope, offset, divisor): it is (slope * t + offset) / divisor at time t."""
    p, q, c = first
    other_p, other_q, other_c = second
    return (p * other_q - other_p * q, c * other_q - other_c * q, q * other_q)


def times_ahead(first, second, start, stop):
    """The number of times from start to stop at which the lead is positive; stop >= start."""
    slope, offset, divisor = gap_line(first, second)
    if slope < 0:
        return times_ahead(mirror_rule(second), mirror_rule(first), 1 - stop, 1 - start)
    # The lead is not positive where the gap is not, it is 0 or 1 while the gap is below 1, and positive from then on.
    open_from = reach(slope, 1 - offset, start, stop)
    sure_from = reach(slope, divisor - offset, start, stop)
    return count_sum(first, open_from, sure_from) - count_sum(second, open_from, sure_from) + stop - sure_from


def reach(slope, level, start, stop):
    """The least time of a range with slope * time >= level, or stop if there is none; slope >= 0."""
    if slope == 0:
        return start if level <= 0 else stop
    return min(stop, max(start, divide_up(level, slope)))


def steps_to_lead(first, second, time, step, amount):
    """How many steps of 1 or -1 lead from a time to the nearest one at which the lead is at least amount, or None."""
    p, q, c = first
    other_p, other_q, other_c = second
    # The lead is at least amount if an integer is greater than the second count's quotient + amount - 1, but not
    # greater than the first one's.
    low = (step * other_p, other_p * time + other_c + 1 + (amount - 1) * other_q, other_q)
    high = (step * p, p * time + c, q)
    return first_between(low, high)


def greatest_lead(first, second, start, stop):
    """The greatest lead at the times from start to stop; stop > start."""
    top = max([count(first, time) - count(second, time) for time in (start, stop - 1)])
    # The gap is greatest at one of the two ends, so no lead exceeds the leads there by 2.
    higher = first_lead(first, second, start, top + 1)
    return top if higher is None or higher >= stop else top + 1


def cycle_agreements(first, second):
    """The number of times of a cycle at which two rules of one rate have equal counts."""
    return max(0, first[1] - abs(first[2] - second[2]))


def close_times(first, second):
    """The range of times at which the gap of two rules of different rates is between -1 and 1, as (start, stop)."""
    slope, offset, divisor = gap_line(first, second)
    if slope < 0:
        slope, offset = -slope, -offset
    return (divide_up(1 - divisor - offset, slope), divide_up(divisor - offset, slope))


def next_agreement(first, second, time):
    """The least time from the given one on with equal counts, or None."""
    # A lead changes its sign only where the gap does, so this ends after a few rounds.
    while time is not None:
        lead = count(first, time) - count(second, time)
        if lead == 0:
            return time
        if lead < 0:
            time = first_lead(first, second, time, 0)
        else:
            time = first_lead(second, first, time, 0)
    return None


def search_agreement(first, second, start, stop, number):
    """The time of the agreement with this number from start on; there are more than this number before stop."""
    while number > FEW:
        middle = (start + stop) // 2
        found = compare_counts(first, second, start, middle)[1]
        if found > number:
            stop = middle
        else:
            start, number = middle, number - found
    # In a range that is long and contains few agreements, going from one to the next is quicker than halving it.
    time = next_agreement(first, second, start)
    for step in range(number):
        time = next_agreement(first, second, time + 1)
    return time
