"""Records, which state that the count at a time is at least or at most some number."""

from leapfit.errors import InvalidRecord
from leapfit.integers import check_integer, is_integer

MOST_RECORDS = 200


def is_record(value):
    """Whether the value is a record."""
    if not isinstance(value, tuple) or len(value) != 3:
        return False
    return value[0] in ("at least", "at most") and is_integer(value[1]) and is_integer(value[2])


def count_records(time, count):
    """The two records that exactly the rules with this count at this time fit."""
    check_integer(time)
    check_integer(count)
    return [("at least", time, count), ("at most", time, count)]


def event_records(event, time):
    """The two records that exactly the rules fit whose event happens at this time."""
    check_integer(event)
    check_integer(time)
    return [("at least", time, event), ("at most", time - 1, event - 1)]


def check_records(value):
    """Raise InvalidRecord unless the value is a list of at most 200 records."""
    if not isinstance(value, (list, tuple)) or len(value) > MOST_RECORDS:
        raise InvalidRecord(-1)
    for index, item in enumerate(value):
        if not is_record(item):
            raise InvalidRecord(index)


def mirror_records(records):
    """The records that a rule fits exactly if its mirrored rule fits the given ones."""
    return [("at most" if word == "at least" else "at least", -t, -n) for word, t, n in records]


def are_indexes(value, number):
    """Whether the value is a list of indexes, in ascending order, of a list with this number of items."""
    if not isinstance(value, (list, tuple)):
        return False
    last = -1
    for index in value:
        if not is_integer(index) or not last < index < number:
            return False
        last = index
    return True
