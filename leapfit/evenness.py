"""Even lists of counts, and the rules behind repeated patterns."""

from leapfit.errors import InvalidCounts
from leapfit.integers import is_integer
from leapfit.rules import reduce_rule

MOST_ITEMS = 200


def is_counts(value):
    """Whether the value is a list of 1 to 200 integers."""
    if not isinstance(value, (list, tuple)) or not 1 <= len(value) <= MOST_ITEMS:
        return False
    return all([is_integer(item) for item in value])


def uneven(counts):
    """None if the list is even, otherwise a tuple that shows where it is not."""
    if not is_counts(counts):
        raise InvalidCounts(counts)
    for i in range(len(counts) - 1):
        if counts[i + 1] < counts[i]:
            return ("falls", i)
    for w in range(1, len(counts)):
        gains = [counts[i + w] - counts[i] for i in range(len(counts) - w)]
        most, least = max(gains), min(gains)
        if most >= least + 2:
            return ("windows", gains.index(most), gains.index(least), w)
    return None


def is_uneven_certificate(counts, value):
    """Whether the value is a tuple that shows where the list is not even."""
    if not is_counts(counts):
        raise InvalidCounts(counts)
    if not isinstance(value, tuple) or len(value) not in (2, 4):
        return False
    if not all([is_integer(item) and item >= 0 for item in value[1:]]):
        return False
    if len(value) == 2:
        return value[0] == "falls" and falls_at(counts, value[1])
    return value[0] == "windows" and windows_differ(counts, value[1], value[2], value[3])


def falls_at(counts, i):
    """Whether i + 1 is an index of the list, and the list falls there; i >= 0."""
    return i + 1 < len(counts) and counts[i + 1] < counts[i]


def windows_differ(counts, i, j, w):
    """Whether the window of width w at i has at least two events more than the one at j; no argument is negative."""
    if w < 1 or max(i, j) + w >= len(counts):
        return False
    return counts[i + w] - counts[i] >= counts[j + w] - counts[j] + 2


def cycle_rule(pattern):
    """The rule with count 0 at time 0 whose events from time 1 on repeat the pattern forever, or None."""
    if not is_counts(pattern) or min(pattern) < 0:
        raise InvalidCounts(pattern)
    p, q, c = reduce_rule(sum(pattern), len(pattern), 0)
    total = 0
    phases = []
    for time, events in enumerate(pattern, start=1):
        total += events
        phases.append(q * total - p * time)
    # The count at a time is its total exactly if c is one of the q integers from the phase of this time on.
    if max(phases) >= min(phases) + q:
        return None
    return (p, q, max(phases))
