"""Records that follow from others."""

from leapfit.conflicts import find_conflict, shows_conflict
from leapfit.errors import InvalidRecord, NoRule
from leapfit.fitting import fits_record, fitting_rule, leave_no_rate, split_records, tighter_pairs
from leapfit.records import check_records, is_record
from leapfit.rules import is_rule


def opposite(record):
    """The record that exactly the rules fit that do not fit the given one."""
    if not is_record(record):
        raise InvalidRecord(0)
    word, time, number = record
    if word == "at least":
        return ("at most", time, number - 1)
    return ("at least", time, number + 1)


def follows(records, record):
    """A tuple that says that the record follows from the records, or that it is open, and shows why."""
    doubted = with_opposite(records, record)
    indexes = find_conflict(doubted)
    if indexes is None:
        return ("open", fitting_rule(doubted))
    return ("follows", indexes)


def is_answer(records, record, value):
    """Whether the value is such a tuple."""
    doubted = with_opposite(records, record)
    if not isinstance(value, tuple) or len(value) != 2:
        return False
    if value[0] == "follows":
        return shows_conflict(doubted, value[1])
    if value[0] != "open" or not is_rule(value[1]):
        return False
    return all([fits_record(value[1], item) for item in doubted])


def core(records):
    """The indexes that remain when each record that follows from the others is removed, from the last to the first."""
    check_records(records)
    lows, highs = split_records(records)
    pairs = tighter_pairs((None, None), lows, highs)
    if leave_no_rate(pairs):
        raise NoRule()
    for index in reversed(range(len(records))):
        other_lows = [low for low in lows if low[0] != index]
        other_highs = [high for high in highs if high[0] != index]
        # The rates stay the same without a record that follows. If one does not follow from the others, then at some
        # rate both it and its opposite fit beside them. So only the rates that fit all records need to be looked at,
        # and it is enough to compare the opposite with the others.
        new_lows, new_highs = split_records([opposite(records[index])])
        doubted = tighter_pairs(tighter_pairs(pairs, new_lows, other_highs), other_lows, new_highs)
        if leave_no_rate(doubted):
            lows, highs = other_lows, other_highs
    return sorted([index for index, time, number in lows + highs])


def with_opposite(records, record):
    """The records and the opposite of a further one, after the checks of both arguments."""
    check_records(records)
    if not is_record(record):
        raise InvalidRecord(len(records))
    return list(records) + [opposite(record)]
