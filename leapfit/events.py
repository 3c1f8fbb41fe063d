"""When the events of a rule happen, and which remainders its counts leave."""

from leapfit.errors import NoEvents
from leapfit.floor_sums import count_hits
from leapfit.integers import check_at_least, check_between, check_integer, check_range, divide_up, first_hit
from leapfit.rules import check_rule, count, count_sum


def check_events(rule):
    """Raise NoEvents if the rule has no events."""
    if rule[0] == 0:
        raise NoEvents()


def event_time(rule, event):
    """The time of an event."""
    check_rule(rule)
    check_integer(event)
    return count(event_rule(rule), event)


def event_rule(rule):
    """The rule whose count at m is the time of event m."""
    check_rule(rule)
    check_events(rule)
    p, q, c = rule
    # The least t with p * t + c >= q * m is (q * m - c) / p, rounded up.
    return (q, p, p - 1 - c)


def events_in(rule, start, stop):
    """The number of events at the times of a range."""
    check_rule(rule)
    check_range(start, stop)
    if stop <= start:
        return 0
    return count(rule, stop - 1) - count(rule, start - 1)


def next_event(rule, time):
    """A tuple (event, time) for the smallest event that happens at the given time or later."""
    check_rule(rule)
    check_integer(time)
    event = count(rule, time - 1) + 1
    return (event, event_time(rule, event))


def previous_event(rule, time):
    """A tuple (event, time) for the greatest event that happens before the given time."""
    check_rule(rule)
    check_integer(time)
    event = count(rule, time - 1)
    return (event, event_time(rule, event))


def event_time_sum(rule, first, last):
    """The sum of the times of the events m with first <= m < last."""
    check_rule(rule)
    check_range(first, last)
    return count_sum(event_rule(rule), first, last)


def busy_times(rule, start, stop):
    """The number of times of a range at which at least one event happens."""
    check_rule(rule)
    check_range(start, stop)
    # At a rate below 1 no two events happen at one time; at any other rate no time is without an event.
    return min(events_in(rule, start, stop), max(0, stop - start))


def gap_range(rule, events):
    """The least and the greatest time from event m to event m + events, over all m."""
    check_rule(rule)
    check_at_least(events, 0)
    check_events(rule)
    p, q, c = rule
    return (q * events // p, divide_up(q * events, p))


def residue_times(rule, k, r, start, stop):
    """The number of times of a range at which the count leaves the remainder r when it is divided by k."""
    check_residue(rule, k, r)
    check_range(start, stop)
    p, q, c = rule
    return count_hits(max(0, stop - start), p, p * start + c, k * q, residue_arc(q, r))


def next_residue(rule, k, r, time):
    """The least time from the given one on at which the count leaves the remainder r by k, or None."""
    check_residue(rule, k, r)
    check_integer(time)
    p, q, c = rule
    steps = first_hit(p, p * time + c, k * q, residue_arc(q, r))
    if steps is None:
        return None
    return time + steps


def check_residue(rule, k, r):
    """Raise the error for the first of the three arguments that is not valid."""
    check_rule(rule)
    check_at_least(k, 1)
    check_between(r, 0, k - 1)


def residue_arc(cycle, r):
    """The remainders of p * t + c by k * cycle at which the count leaves the remainder r by k."""
    return (cycle * r, cycle * (r + 1) - 1)
