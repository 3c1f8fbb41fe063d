"""What several test files need: rules to try, wrong objects, and the formula of the document."""

import copy
import random

FAR = 10 ** 197 + 12345678901234567890

# Objects of every kind that [3] names; none of them is an integer or a rule.
NO_INTEGERS = [
    None, True, False, "", "7", "rule", [], [1], (), (1,), (1, 2), {}, {1: 2}, [[]], [(1, 2, 3)], ((1, 2, 3),),
    {"a": [1, (2, {"b": None})]}, [[[[[[[[[[[[1]]]]]]]]]]]],
]

NO_RULES = NO_INTEGERS + [
    0, 1, -1, 10 ** 50, [2, 5, 1], (2, 5), (2, 5, 1, 0), (2, 4, 1), (0, 2, 0), (0, 5, 1), (3, 3, 0), (10, 15, 7),
    (-1, 5, 0), (2, 0, 1), (1, 0, 0), (0, 0, 0), (2, -5, 1), (-2, -5, 1), (True, 5, 1), (2, True, 1), (2, 5, True),
    (False, 1, 0), (0, 1, False), (1, 1, None), ("2", "5", "1"), "251", (None, 5, 1), (2, [5], 1), (2, 5, (1,)),
    ((2, 5, 1),), {0: 2, 1: 5, 2: 1}, {"p": 2, "q": 5, "c": 1}, (2 * 10 ** 99, 4 * 10 ** 99, 1),
]

NO_RATES = [value for value in NO_INTEGERS if value != (1, 2)] + [
    0, 1, -1, [2, 5], (2,), (2, 5, 1), (0, 2), (2, 4), (3, 3), (1, 0), (0, 0), (-1, 5), (1, -5), (-1, -5), (0, -1),
    (True, 5), (2, True), (False, 1), (0, True), ("1", "2"), "12", (None, 1), (1, None), ([1], 2), (1, (2,)),
    {0: 1, 1: 2}, (10 ** 60, 10 ** 61),
]

NO_RECORDS = NO_INTEGERS + [
    0, -3, 10 ** 60, ["at least", 3, 1], ("at least",), ("at least", 3), ("at least", 3, 1, 0), ("at most", 3, 1, None),
    ("at  least", 3, 1), ("At least", 3, 1), ("at least ", 3, 1), ("atleast", 3, 1), ("", 3, 1), ("at", 3, 1),
    ("least", 3, 1), ("count", 3, 1), (None, 3, 1), (True, 3, 1), (0, 3, 1), (("at least",), 3, 1), (["at most"], 3, 1),
    ({}, 3, 1), ("at least", True, 1), ("at least", 3, True), ("at most", False, 1), ("at most", 3, False),
    ("at most", None, 1), ("at most", 3, None), ("at least", "3", 1), ("at least", 3, "1"), ("at least", [3], 1),
    ("at least", 3, (1,)), ("at least", {}, 1), (3, 1, "at least"), (("at least", 3, 1),), [("at least", 3, 1)],
    {"at least": (3, 1)}, {0: "at least", 1: 3, 2: 1}, "at least 1 at 3",
]

EDGE_RULES = [
    (0, 1, 0), (0, 1, 7), (0, 1, -7), (1, 1, 0), (1, 1, -3), (3, 1, 2), (1, 2, 0), (1, 5, -11), (1, 7, 3), (2, 5, 1),
    (5, 2, 0), (7, 3, -100), (4, 9, 8), (12, 5, 31), (8, 13, 0), (6, 7, 6), (1, 12, 5), (11, 12, -5), (13, 12, 4),
]

FAR_RULES = [
    (2 * 10 ** 60 + 1, 10 ** 60, -3 * 10 ** 70), (1, 10 ** 80, 10 ** 40), (10 ** 90 + 1, 10 ** 45, 5),
    (0, 1, 10 ** 100), (10 ** 150, 1, -1), (97 ** 100, 89 ** 101, 12 ** 150), (10 ** 299 + 1, 10 ** 298, -(10 ** 299)),
]


def formula(rule, time):
    p, q, c = rule
    return (p * time + c) // q


def fits_record(rule, record):
    word, time, number = record
    return formula(rule, time) >= number if word == "at least" else formula(rule, time) <= number


def common(first, second):
    while second:
        first, second = second, first % second
    return first


def random_rule(source, most):
    while True:
        p, q, c = source.randint(0, most), source.randint(1, most), source.randint(-3 * most, 3 * most)
        if common(p, q) == 1:
            return (p, q, c)


def small_rules(seed, number, most=14):
    source = random.Random(seed)
    return EDGE_RULES + [random_rule(source, most) for _ in range(number)]


def looks_like_a_rule(value):
    return (type(value) is tuple and [type(item) for item in value] == [int, int, int]
            and value[0] >= 0 and value[1] >= 1 and common(value[0], value[1]) == 1)


def same(first, second):
    """Equal, also in the kinds of all parts: 1 is not True, a tuple is not a list."""
    return repr(first) == repr(second)


def check_errors(test, function, arguments, wrong):
    """Each wrong argument raises its error; the first wrong one of several wins; nothing is changed.

    `arguments` is a dict in the order of the signature, `wrong` a dict of lists of tuples (error, object).
    """
    for name in arguments:
        test.assertIn(name, wrong)
        for error, value in wrong[name]:
            check_error(test, function, arguments, {name: value}, error, value)
    names = list(arguments)
    for at, first in enumerate(names):
        error, value = wrong[first][0]
        for later in names[at + 1:]:
            for _, other in wrong[later]:
                check_error(test, function, arguments, {first: value, later: other}, error, value)


def check_error(test, function, arguments, changes, error, value):
    given = {**arguments, **changes}
    before = copy.deepcopy(given)
    with test.assertRaises(error) as caught:
        function(*given.values())
    test.assertIs(type(caught.exception), error)
    test.assertIs(caught.exception.value, value)
    with test.assertRaises(error):
        function(**given)
    test.assertTrue(same(given, before))
