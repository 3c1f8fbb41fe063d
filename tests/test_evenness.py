import copy
import itertools
import random
import unittest

from leapfit.errors import InvalidCounts
from leapfit.evenness import cycle_rule, is_uneven_certificate, uneven
from tests.support import FAR, FAR_RULES, NO_INTEGERS, formula, looks_like_a_rule, same, small_rules

NO_COUNTS = [value for value in NO_INTEGERS if value not in ([1], (1,), (1, 2))] + [
    0, 7, -1, FAR, "12", [True], [1, False], (0, True), [None], [0, None], ["1"], [0, 1, "2"], [[1]], ([1],), [(1, 2)],
    [1, {}], {0: 1}, [0] * 201, (0,) * 201, list(range(300)), [1] * 200 + [None],
]


def is_certificate(counts, value):
    """The definition of the document, read for a tuple of the right form."""
    if value[0] == "falls":
        i = value[1]
        return 0 <= i and i + 1 < len(counts) and counts[i + 1] < counts[i]
    i, j, w = value[1:]
    if min(i, j) < 0 or w < 1 or max(i, j) + w >= len(counts):
        return False
    return counts[i + w] - counts[i] >= counts[j + w] - counts[j] + 2


def is_even(counts):
    size = len(counts)
    if any(counts[i + 1] < counts[i] for i in range(size - 1)):
        return False
    for w in range(1, size):
        gains = [counts[i + w] - counts[i] for i in range(size - w)]
        if max(gains) - min(gains) > 1:
            return False
    return True


def all_certificates(counts):
    places = range(len(counts))
    for i in places:
        if is_certificate(counts, ("falls", i)):
            yield ("falls", i)
    for i, j, w in itertools.product(places, repeat=3):
        if is_certificate(counts, ("windows", i, j, w)):
            yield ("windows", i, j, w)


def counts_of(rule, start, size):
    return [formula(rule, start + i) for i in range(size)]


class EvennessTest(unittest.TestCase):
    def test_examples(self):
        self.assertEqual(uneven([3, 3, 2]), ("falls", 1))
        self.assertIs(is_uneven_certificate([0, 0, 0, 1, 2], ("windows", 2, 0, 2)), True)
        self.assertEqual(cycle_rule([0, 1, 0, 0, 1]), (2, 5, 1))

    def test_keywords(self):
        self.assertEqual(uneven(counts=[3, 3, 2]), ("falls", 1))
        self.assertIs(is_uneven_certificate(value=("falls", 1), counts=[3, 3, 2]), True)
        self.assertEqual(cycle_rule(pattern=[0, 1]), (1, 2, 0))

    def check_uneven(self, counts):
        before = list(counts)
        for given in (counts, tuple(counts)):
            found = uneven(given)
            if found is None:
                self.assertTrue(is_even(counts), counts)
            else:
                self.assertIs(type(found), tuple)
                self.assertEqual([type(item) for item in found], [str] + [int] * (len(found) - 1))
                self.assertTrue(is_certificate(counts, found), (counts, found))
                self.assertIs(is_uneven_certificate(given, found), True)
        self.assertEqual(counts, before)

    def test_all_short_lists(self):
        for size in range(1, 6):
            for counts in itertools.product(range(-1, 3), repeat=size):
                self.check_uneven(list(counts))

    def test_counts_of_rules_are_even(self):
        for rule in small_rules(61, 10) + FAR_RULES:
            for start in (0, -30, FAR):
                for size in (1, 2, 15, 200):
                    self.assertIsNone(uneven(counts_of(rule, start, size)))
                    self.assertIsNone(uneven(tuple(counts_of(rule, start, size))))

    def test_changed_counts_of_rules(self):
        source = random.Random(62)
        for rule in small_rules(63, 15):
            for size in (2, 5, 12, 60):
                for change in (1, -1, 2, -3, 10 ** 70):
                    counts = counts_of(rule, source.randint(-50, 50), size)
                    counts[source.randrange(size)] += change
                    self.check_uneven(counts)

    def test_long_lists(self):
        counts = counts_of((2, 5, 1), 0, 200)
        counts[199] += 1
        self.check_uneven(counts)
        counts[199] -= 5
        self.check_uneven(counts)
        self.check_uneven([i * i for i in range(200)])
        self.check_uneven([-i for i in range(200)])
        self.check_uneven([0] * 100 + [1] + [1] * 98 + [2])

    def test_one_item(self):
        for counts in ([0], (5,), [-FAR]):
            self.assertIsNone(uneven(counts))
            for value in (("falls", 0), ("windows", 0, 0, 0), ("windows", 0, 0, 1)):
                self.assertIs(is_uneven_certificate(counts, value), False)

    def test_all_certificates_of_short_lists(self):
        for counts in ([0, 0, 0, 1, 2], [3, 3, 2], [0, 2, 2, 4, 9, 9], [5, 4, 3, 0], [0, 1, 1, 2], [1, 1, 4]):
            expected = list(all_certificates(counts))
            span = range(-2, len(counts) + 2)
            found = [("falls", i) for i in span if is_uneven_certificate(counts, ("falls", i))]
            for i, j, w in itertools.product(span, repeat=3):
                if is_uneven_certificate(tuple(counts), ("windows", i, j, w)):
                    found.append(("windows", i, j, w))
            self.assertEqual(found, expected)

    def test_changed_certificates(self):
        counts = [0, 0, 0, 1, 2, 2, 1]
        for value in all_certificates(counts):
            for place in range(len(value)):
                for other in (None, True, "falls", "windows", "", -1, 10 ** 30, [1], (0,), str(value[place])):
                    changed = value[:place] + (other,) + value[place + 1:]
                    form = [type(item) for item in changed] == [str] + [int] * (len(value) - 1)
                    name = {2: "falls", 4: "windows"}[len(value)]
                    expected = form and changed[0] == name and is_certificate(counts, changed)
                    self.assertIs(is_uneven_certificate(counts, changed), expected, changed)

    def test_two_changed_places(self):
        counts = [0, 0, 0, 1, 2, 2, 1]
        for value in list(all_certificates(counts))[-8:]:
            for first, second in itertools.combinations(range(1, 4), 2):
                for a, b in itertools.product(range(-2, 8), repeat=2):
                    changed = list(value)
                    changed[first], changed[second] = a, b
                    expected = is_certificate(counts, tuple(changed))
                    self.assertIs(is_uneven_certificate(counts, tuple(changed)), expected)

    def test_any_object_as_certificate(self):
        counts = [3, 3, 2]
        self.assertIs(is_uneven_certificate(counts, ("falls", 1)), True)
        others = NO_COUNTS + [
            ["falls", 1], ("falls",), ("falls", 1, 1), ("falls", True), ("falls", "1"), ("falls", (1,)), ("Falls", 1),
            ("windows", 1), ("falls", 1, 0, 1), ("windows", 0, 1), ("windows", 0, 1, 1, 1), ["windows", 0, 1, 1],
            (["falls"], 1), ({}, 1), (None, 1), (1, "falls"), (("falls", 1),), [("falls", 1)], "falls", ("falls", None),
            ("falls", -2), ("falls", 2), ("windows", 0, 1, -1), ("windows", -1, 0, 1), ("falls",) + (1,) * 500,
        ]
        for value in others:
            before = copy.deepcopy(value)
            self.assertIs(is_uneven_certificate(counts, value), False, value)
            self.assertTrue(same(value, before))
        self.assertIs(is_uneven_certificate([0, 2, 2], ("windows", 0, 1, True)), False)
        self.assertIs(is_uneven_certificate([0, 2, 2], ("windows", False, 1, 1)), False)
        self.assertIs(is_uneven_certificate([0, 2, 2], ("windows", 0, True, 1)), False)
        self.assertIs(is_uneven_certificate([0, 2, 2], ("windows", 0, 1, 1)), True)

    def test_cycle_rule_of_patterns_of_rules(self):
        for p, q, c in small_rules(64, 30) + [(1, 199, 198), (7, 200, 13), (FAR * 3 + 1, 3, 1), (FAR, 1, 0)]:
            rule = (p, q, c % q)
            pattern = [formula(rule, t) - formula(rule, t - 1) for t in range(1, q + 1)]
            for times in range(1, min(4, 200 // q) + 1):
                self.assertEqual(cycle_rule(pattern * times), rule)
                self.assertEqual(cycle_rule(tuple(pattern * times)), rule)

    def test_cycle_rule_of_all_short_patterns(self):
        for size in range(1, 6):
            for pattern in itertools.product(range(4), repeat=size):
                self.check_cycle_rule(pattern)

    def check_cycle_rule(self, pattern):
        totals = [0]
        for events in pattern * 3:
            totals.append(totals[-1] + events)
        found = cycle_rule(list(pattern))
        if found is None:
            self.assertFalse(is_even(totals), pattern)
        else:
            self.assertTrue(looks_like_a_rule(found))
            self.assertEqual(counts_of(found, 0, len(totals)), totals)

    def test_cycle_rule_edges(self):
        self.assertEqual(cycle_rule([0]), (0, 1, 0))
        self.assertEqual(cycle_rule([0] * 200), (0, 1, 0))
        self.assertEqual(cycle_rule([5]), (5, 1, 0))
        self.assertEqual(cycle_rule([1] * 200), (1, 1, 0))
        self.assertEqual(cycle_rule([0] * 199 + [1]), (1, 200, 0))
        self.assertEqual(cycle_rule([1] + [0] * 199), (1, 200, 199))
        self.assertIsNone(cycle_rule([0, 2]))
        self.assertIsNone(cycle_rule([0, 0, 1, 1]))
        self.assertIsNone(cycle_rule([0, 1, 0, 0, 1, 0, 1, 0, 0, 1] + [1, 0, 0, 1, 0]))

    def check_invalid(self, function, value, *more):
        before = copy.deepcopy(value)
        with self.assertRaises(InvalidCounts) as caught:
            function(value, *more)
        self.assertIs(type(caught.exception), InvalidCounts)
        self.assertIs(caught.exception.value, value)
        self.assertTrue(same(value, before))

    def test_wrong_arguments(self):
        for value in NO_COUNTS:
            self.check_invalid(uneven, value)
            self.check_invalid(is_uneven_certificate, value, ("falls", 0))
            self.check_invalid(is_uneven_certificate, value, None)
            self.check_invalid(cycle_rule, value)
        for value in ([-1], (-1,), [0, 1, -1], [2, -1, 2], [0] * 199 + [-1], [-FAR, FAR]):
            self.check_invalid(cycle_rule, value)
        self.assertIsNone(uneven([-5, -5, -4]))

    def test_arguments_are_not_changed(self):
        counts = [0, 1, 0, 0, 1]
        cycle_rule(counts)
        uneven(counts)
        is_uneven_certificate(counts, ("falls", 1))
        self.assertEqual(counts, [0, 1, 0, 0, 1])


if __name__ == "__main__":
    unittest.main()
