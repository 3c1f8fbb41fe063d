"""Records, which state that the count at a time is at least or at most some number."""

from leapfit.integers import check_integer, is_integer


def is_record(value):
    """Whether the value is a record."""
    if not isinstance(value, tuple) or len(value) != 3:
        return False
    return value[0] in ("at least", "at most") and is_integer(value[1]) and is_integer(value[2])


def count_records(time, count):
    """The two records that exactly the rules with this count at this time fit."""
    check_integer(time)
    check_integer(count)
    return [("at least", time, count), ("at most", time, count)]


def event_records(event, time):
    """The two records that exactly the rules fit whose event happens at this time."""
    check_integer(event)
    check_integer(time)
    return [("at least", time, event), ("at most", time - 1, event - 1)]
