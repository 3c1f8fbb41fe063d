"""Conflicts: a few records that no rule fits together."""

from leapfit.errors import Fitting
from leapfit.fitting import leave_no_rate, rate_ends, tight_pairs
from leapfit.records import are_indexes, check_records


def conflict(records):
    """None if some rule fits, otherwise two or three indexes whose records conflict; of three, no two conflict."""
    check_records(records)
    return find_conflict(records)


def is_conflict(records, value):
    """Whether the value is a list of two or three indexes, in ascending order, whose records conflict."""
    check_records(records)
    return shows_conflict(records, value)


def blame(records):
    """The indexes of records that conflict, but no longer as soon as any one of them is removed."""
    found = conflict(records)
    if found is None:
        raise Fitting()
    return found


def find_conflict(records):
    """The result of conflict for a list of records of any length."""
    pairs = tight_pairs(records)
    if not leave_no_rate(pairs):
        return None
    # The tightest bounds contradict each other, so their records conflict. When each record without which the others
    # still conflict has been left out, at most three remain [54], and no fewer of these conflict.
    found = sorted(set([index for pair in pairs if pair is not None for index in pair[2:]]))
    for index in list(found):
        others = [other for other in found if other != index]
        if rate_ends([records[other] for other in others]) is None:
            found = others
    return found


def shows_conflict(records, value):
    """The result of is_conflict for a list of records of any length."""
    if not are_indexes(value, len(records)) or len(value) not in (2, 3):
        return False
    return rate_ends([records[index] for index in value]) is None
