"""What several test files need: rules to try, wrong objects, and the formula of the document."""

import copy
import inspect
import random
from fractions import Fraction

from leapfit.errors import InvalidNumber, InvalidRecord, InvalidRule, NoRule

FAR = 10 ** 197 + 12345678901234567890

# Objects of every kind that [3] names; none of them is an integer or a rule.
NO_INTEGERS = [
    None, True, False, "", "7", "rule", [], [1], (), (1,), (1, 2), {}, {1: 2}, [[]], [(1, 2, 3)], ((1, 2, 3),),
    {"a": [1, (2, {"b": None})]}, [[[[[[[[[[[[1]]]]]]]]]]]],
]

NO_RULES = NO_INTEGERS + [
    0, 1, -1, 10 ** 50, [2, 5, 1], (2, 5), (2, 5, 1, 0), (2, 4, 1), (0, 2, 0), (0, 5, 1), (3, 3, 0), (10, 15, 7),
    (-1, 5, 0), (2, 0, 1), (1, 0, 0), (0, 0, 0), (2, -5, 1), (-2, -5, 1), (True, 5, 1), (2, True, 1), (2, 5, True),
    (False, 1, 0), (0, 1, False), (1, 1, None), ("2", "5", "1"), "251", (None, 5, 1), (2, [5], 1), (2, 5, (1,)),
    ((2, 5, 1),), {0: 2, 1: 5, 2: 1}, {"p": 2, "q": 5, "c": 1}, (2 * 10 ** 99, 4 * 10 ** 99, 1),
]

NO_RATES = [value for value in NO_INTEGERS if value != (1, 2)] + [
    0, 1, -1, [2, 5], (2,), (2, 5, 1), (0, 2), (2, 4), (3, 3), (1, 0), (0, 0), (-1, 5), (1, -5), (-1, -5), (0, -1),
    (True, 5), (2, True), (False, 1), (0, True), ("1", "2"), "12", (None, 1), (1, None), ([1], 2), (1, (2,)),
    {0: 1, 1: 2}, (10 ** 60, 10 ** 61),
]

NO_RECORDS = NO_INTEGERS + [
    0, -3, 10 ** 60, ["at least", 3, 1], ("at least",), ("at least", 3), ("at least", 3, 1, 0), ("at most", 3, 1, None),
    ("at  least", 3, 1), ("At least", 3, 1), ("at least ", 3, 1), ("atleast", 3, 1), ("", 3, 1), ("at", 3, 1),
    ("least", 3, 1), ("count", 3, 1), (None, 3, 1), (True, 3, 1), (0, 3, 1), (("at least",), 3, 1), (["at most"], 3, 1),
    ({}, 3, 1), ("at least", True, 1), ("at least", 3, True), ("at most", False, 1), ("at most", 3, False),
    ("at most", None, 1), ("at most", 3, None), ("at least", "3", 1), ("at least", 3, "1"), ("at least", [3], 1),
    ("at least", 3, (1,)), ("at least", {}, 1), (3, 1, "at least"), (("at least", 3, 1),), [("at least", 3, 1)],
    {"at least": (3, 1)}, {0: "at least", 1: 3, 2: 1}, "at least 1 at 3",
]

RECORD = ("at least", 3, 1)

# Tuples (index, object): the object stands in the place of a list of records, and the index is that of InvalidRecord.
WRONG_LISTS = [
    (-1, None), (-1, True), (-1, False), (-1, 0), (-1, 10 ** 60), (-1, ""), (-1, "at least"), (-1, {}),
    (-1, {0: RECORD}), (-1, {"records": [RECORD]}), (-1, [RECORD] * 201), (-1, (RECORD,) * 201), (-1, [None] * 201),
    (0, RECORD), (0, [None, RECORD]), (199, [RECORD] * 199 + [None]), (0, [[RECORD]]), (0, ([RECORD],)),
    (1, [RECORD, list(RECORD), None]),
] + [(2, [RECORD, ("at most", 7, 9), value, RECORD, None]) for value in NO_RECORDS] + [
    (1, (RECORD, value)) for value in NO_RECORDS
]

# The same as cases of check_errors.
WRONG_RECORDS = [(InvalidRecord, value, index) for index, value in WRONG_LISTS]
WRONG_INTEGERS = [(InvalidNumber, value) for value in NO_INTEGERS]
WRONG_RULES = [(InvalidRule, value) for value in NO_RULES]

# The records of the examples in the document, and records that conflict.
RECORDS = [("at least", 0, 0), ("at most", 0, 0), ("at least", 10, 3), ("at most", 10, 3)]
CONFLICTING = [("at least", 0, 3), ("at most", 4, 1)]

NO_WITNESSES = [value for value in NO_RECORDS if value not in ("at", "least", "rule")] + [
    "", "abcdefghijklm", "a" * 13, "a" * 200, "Ann", "ANN", "anN", "ann ", " ann", "an n", "ann1", "1", "ann\n", "\n", "a_b",
    "a-b", "\u00e4nn", "ann\u00e9", "\u03b1", "\u0131", "\u00aa", "\uff41", "\u212a", "a\u0301", "ab\x00", b"ann", ["ann"],
    ("ann",), {"ann": 1}, {"a", "n"},
]

EDGE_RULES = [
    (0, 1, 0), (0, 1, 7), (0, 1, -7), (1, 1, 0), (1, 1, -3), (3, 1, 2), (1, 2, 0), (1, 5, -11), (1, 7, 3), (2, 5, 1),
    (5, 2, 0), (7, 3, -100), (4, 9, 8), (12, 5, 31), (8, 13, 0), (6, 7, 6), (1, 12, 5), (11, 12, -5), (13, 12, 4),
]

FAR_RULES = [
    (2 * 10 ** 60 + 1, 10 ** 60, -3 * 10 ** 70), (1, 10 ** 80, 10 ** 40), (10 ** 90 + 1, 10 ** 45, 5),
    (0, 1, 10 ** 100), (10 ** 150, 1, -1), (97 ** 100, 89 ** 101, 12 ** 150), (10 ** 299 + 1, 10 ** 298, -(10 ** 299)),
]


def formula(rule, time):
    p, q, c = rule
    return (p * time + c) // q


def fits_record(rule, record):
    word, time, number = record
    return formula(rule, time) >= number if word == "at least" else formula(rule, time) <= number


def common(first, second):
    while second:
        first, second = second, first % second
    return first


def random_rule(source, most):
    while True:
        p, q, c = source.randint(0, most), source.randint(1, most), source.randint(-3 * most, 3 * most)
        if common(p, q) == 1:
            return (p, q, c)


def small_rules(seed, number, most=14):
    source = random.Random(seed)
    return EDGE_RULES + [random_rule(source, most) for _ in range(number)]


def looks_like_a_rule(value):
    return (type(value) is tuple and [type(item) for item in value] == [int, int, int]
            and value[0] >= 0 and value[1] >= 1 and common(value[0], value[1]) == 1)


def same(first, second):
    """Equal, also in the kinds of all parts: 1 is not True, a tuple is not a list."""
    return repr(first) == repr(second)


def random_records(source, number, times, counts):
    """Records with any times and counts up to these sizes; most lists of many such records conflict."""
    return [(source.choice(("at least", "at most")), source.randint(-times, times), source.randint(-counts, counts))
            for _ in range(number)]


def fitting_records(source, number, rule, times, slack):
    """Records that the rule fits, with counts that differ from its counts by at most so much."""
    records = []
    for _ in range(number):
        time, off = source.randint(-times, times), source.randint(0, slack)
        if source.random() < 0.5:
            records.append(("at least", time, formula(rule, time) - off))
        else:
            records.append(("at most", time, formula(rule, time) + off))
    return records


def sample_lists(seed, most, number=60):
    """Lists of up to so many records: of one kind, of few times, fitting, conflicting, near and far."""
    source = random.Random(seed)
    lists = [[], [("at least", 0, 0)], [("at most", 5, -7)], [("at least", FAR, 3), ("at least", -FAR, 4)]]
    for _ in range(number):
        size = source.randint(1, most)
        times = source.choice((1, 3, 10, 50, FAR))
        rule = random_rule(source, source.choice((3, 12, 10 ** 60)))
        lists.append(random_records(source, min(size, source.randint(2, 6)), times, source.choice((1, 4, times))))
        lists.append(fitting_records(source, size, rule, times, source.choice((0, 1, 5))))
        broken = fitting_records(source, size, rule, times, 1)
        broken[source.randrange(size)] = random_records(source, 1, times, times)[0]
        lists.append(broken)
        word = source.choice(("at least", "at most"))
        lists.append([(word, time, count) for _, time, count in broken])
        # At a steep rule, a record that is only just broken contradicts no other one alone.
        steep = fitting_records(source, min(size, 12), (5 * rule[1] + 1, rule[1], rule[2]), times, 0)
        word, time, count = steep[0]
        lists.append([(word, time, count + (1 if word == "at least" else -1))] + steep[1:])
    return lists


def split(records):
    """The tuples (time, count) of the "at least" and those of the "at most" records."""
    return ([(t, n) for word, t, n in records if word == "at least"],
            [(u, m) for word, u, m in records if word == "at most"])


def interval(records):
    """The ends of the rates by the pairs of [52], or None; a low end of None means that 0 fits."""
    lows, highs = split(records)
    if any(t == u and n > m for t, n in lows for u, m in highs):
        return None
    low = max((Fraction(n - m - 1, t - u) for t, n in lows for u, m in highs if u < t), default=Fraction(-1))
    high = min((Fraction(m + 1 - n, u - t) for t, n in lows for u, m in highs if t < u), default=None)
    if high is not None and (high <= 0 or high <= low):
        return None
    return (None if low < 0 else low, high)


def phases_by_hand(records, rate):
    """The least and the greatest c of [53]; there are records of both kinds."""
    p, q = rate
    lows, highs = split(records)
    return max(n * q - p * t for t, n in lows), min((m + 1) * q - p * u - 1 for u, m in highs)


def phases_of_cycle(records, cycle):
    """For each p whose rate p / cycle may fit a tuple of p, the least c and the greatest c; the rates have an upper end."""
    found = []
    p = 0
    high = interval(records)[1]
    while Fraction(p, cycle) < high:
        found.append((p, *phases_by_hand(records, (p, cycle))))
        p += 1
    return found


def pairs_of_cycle(records, cycle):
    """All pairs (p, c) of [61] in their order."""
    return [(p, c) for p, least, greatest in phases_of_cycle(records, cycle) for c in range(least, greatest + 1)]


def rules_of_cycle(records, cycle):
    """All rules of a cycle that fit, in the order of [61]."""
    return [(p, cycle, c) for p, c in pairs_of_cycle(records, cycle) if common(p, cycle) == 1]


def fitting_lists(seed, most, number=60):
    """Those of the sample lists that some rule fits."""
    return [records for records in sample_lists(seed, most, number) if interval(records) is not None]


def bounded_lists(seed, number, times=8, counts=6):
    """Small lists of records that some rule fits, whose rates have an upper end."""
    source = random.Random(seed)
    found = []
    while len(found) < number:
        records = random_records(source, source.randint(2, 7), times, counts)
        ends = interval(records)
        if ends is not None and ends[1] is not None:
            found.append(records)
    return found


def fits_some(records):
    return interval(records) is not None


def small_lists(seed, number, most=7):
    """Small lists that some rule fits; with and without an upper end of the rates, of one kind and of both."""
    source = random.Random(seed)
    found = [[], [("at least", 0, 4)], [("at most", -3, 2)], [("at least", 5, 2), ("at most", 5, 2)],
             [("at least", 5, 2), ("at most", 5, 4)], [("at least", 7, 2), ("at most", -3, 2)]]
    while len(found) < number:
        if source.random() < 0.5:
            records = random_records(source, source.randint(1, most), 8, 6)
        else:
            rule = (source.randint(0, 9), source.choice((1, 5, 7, 11)), source.randint(-9, 9))
            records = fitting_records(source, source.randint(1, most), rule, 12, source.choice((0, 0, 1)))
        if fits_some(records):
            found.append(records)
    return found


def against(record):
    """The opposite of a record, by the words of [55]."""
    word, t, n = record
    return ("at most", t, n - 1) if word == "at least" else ("at least", t, n + 1)


def has_form(records):
    """Whether two or three records, in some order, have one of the forms of [54]."""
    lows, highs = split(records)
    if (len(lows), len(highs)) == (1, 1):
        (t, n), (u, m) = lows[0], highs[0]
        return t <= u and n > m
    if (len(lows), len(highs)) == (2, 1):
        ((t1, n1), (t2, n2)), (u, m) = sorted(lows), highs[0]
        return t1 < u < t2 and (t2 - u) * n1 + (u - t1) * n2 >= (t2 - t1) * (m + 1)
    if (len(lows), len(highs)) == (1, 2):
        (t, n), ((u1, m1), (u2, m2)) = lows[0], sorted(highs)
        return u1 < t < u2 and (u2 - t) * (m1 + 1) + (t - u1) * (m2 + 1) <= (u2 - u1) * n
    return False


def ascending(indexes, number):
    """Whether this is a list of indexes in ascending order of a list with this number of items."""
    return (type(indexes) is list and all(type(index) is int and 0 <= index < number for index in indexes)
            and all(first < second for first, second in zip(indexes, indexes[1:])))


def check_errors(test, function, arguments, wrong):
    """Each wrong argument raises its error; the first wrong one of several wins; nothing is changed.

    `arguments` is a dict in the order of the checks. `wrong` is a dict of lists of tuples: (error, object) if the
    object is the error's value, or (error, object, index). An argument that raises no error has an empty list there.
    """
    for name in arguments:
        test.assertIn(name, wrong)
        for case in wrong[name]:
            check_error(test, function, arguments, {name: case[1]}, case)
    names = list(arguments)
    for at, first in enumerate(names):
        for case in wrong[first][:1]:
            for later in names[at + 1:]:
                for other in wrong[later]:
                    check_error(test, function, arguments, {first: case[1], later: other[1]}, case)


def check_error(test, function, arguments, changes, case):
    given = {**arguments, **changes}
    before = copy.deepcopy(given)
    by_position, by_keyword = call_arguments(function, given)
    with test.assertRaises(case[0]) as caught:
        function(*by_position, **by_keyword)
    test.assertIs(type(caught.exception), case[0])
    if len(case) == 2:
        test.assertIs(caught.exception.value, case[1])
    else:
        test.assertTrue(same(caught.exception.index, case[2]), case)
    with test.assertRaises(case[0]):
        function(**given)
    test.assertTrue(same(given, before))


def call_arguments(function, given):
    """The arguments by position, in the order of the signature, and those that can be passed by keyword only."""
    parameters = inspect.signature(function).parameters.values()
    only = {item.name for item in parameters if item.kind is item.KEYWORD_ONLY}
    by_position = [given[item.name] for item in parameters if item.name in given and item.name not in only]
    return by_position, {name: given[name] for name in given if name in only}


def check_forecast_errors(test, function, others, free=()):
    """InvalidRecord, InvalidNumber for the first argument that is no integer, then NoRule."""
    wrong = {"records": WRONG_RECORDS, **{name: [] if name in free else WRONG_INTEGERS for name in others}}
    for records in (RECORDS, CONFLICTING):
        check_errors(test, function, {"records": records, **others}, wrong)
    for records in (CONFLICTING, tuple(CONFLICTING * 100), [("at least", 4, 3), ("at most", 4, 2)]):
        before = list(records)
        with test.assertRaises(NoRule) as caught:
            function(records, *others.values())
        test.assertIs(type(caught.exception), NoRule)
        test.assertEqual(list(records), before)
    with test.assertRaises(InvalidRecord):
        function([*CONFLICTING, None], *others.values())
