import copy
import random
import unittest

from leapfit.errors import InvalidNumber, InvalidRule
from leapfit.rules import (count, count_sum, is_rule, mirror_rule, reduce_rule, sample_rule, shift_rule,
                           thin_rule)
from tests.support import (EDGE_RULES, FAR, FAR_RULES, NO_INTEGERS, NO_RULES, check_errors, common, formula,
                           looks_like_a_rule, same, small_rules)

NEAR = list(range(-12, 13))
DISTANT = [FAR, -FAR, FAR + 1, -FAR - 1, 10 ** 40, -(10 ** 120) + 7, 3 * 10 ** 197 + 11]
WRONG_INTEGERS = [(InvalidNumber, value) for value in NO_INTEGERS]
WRONG_RULES = [(InvalidRule, value) for value in NO_RULES]
FACTORS = [1, 2, 3, 4, 5, 6, 10, 12, 35, 10 ** 30, FAR]
WRONG_FACTORS = WRONG_INTEGERS + [(InvalidNumber, 0), (InvalidNumber, -1), (InvalidNumber, -FAR)]


class RulesTest(unittest.TestCase):
    def check_counts(self, rule, expected):
        """The result is a rule, and its counts are the expected ones."""
        self.assertTrue(looks_like_a_rule(rule), rule)
        self.assertTrue(is_rule(rule))
        for time in NEAR + DISTANT:
            self.assertEqual(formula(rule, time), expected(time))

    def test_examples(self):
        self.assertIs(is_rule((2, 4, 1)), False)
        self.assertEqual(reduce_rule(2, 4, 7), (1, 2, 3))
        self.assertEqual(count((2, 5, 1), -1), -1)
        self.assertEqual(count_sum((2, 5, 1), 0, 5), 3)
        self.assertEqual(shift_rule((2, 5, 1), 3, 1), (2, 5, 12))
        self.assertEqual(mirror_rule((2, 5, 1)), (2, 5, 3))
        self.assertEqual(thin_rule((2, 5, 1), 2), (1, 5, 0))
        self.assertEqual(sample_rule((2, 5, 1), 3), (6, 5, 1))

    def test_keywords(self):
        rule = (2, 5, 1)
        self.assertIs(is_rule(value=rule), True)
        self.assertEqual(reduce_rule(c=7, q=4, p=2), (1, 2, 3))
        self.assertEqual(count(time=-1, rule=rule), -1)
        self.assertEqual(count_sum(stop=5, start=0, rule=rule), 3)
        self.assertEqual(shift_rule(amount=1, time=3, rule=rule), (2, 5, 12))
        self.assertEqual(mirror_rule(rule=rule), (2, 5, 3))
        self.assertEqual(thin_rule(k=2, rule=rule), (1, 5, 0))
        self.assertEqual(sample_rule(k=3, rule=rule), (6, 5, 1))

    def test_is_rule(self):
        for rule in EDGE_RULES + FAR_RULES:
            self.assertIs(is_rule(rule), True)
        for p in range(-3, 13):
            for q in range(-3, 13):
                expected = p >= 0 and q >= 1 and common(p, q) == 1
                self.assertIs(is_rule((p, q, p - 5)), expected, (p, q))

    def test_is_rule_for_any_object(self):
        for value in NO_RULES + [list(rule) for rule in EDGE_RULES] + [(1, 1, 0) * 100, [0] * 500]:
            before = copy.deepcopy(value)
            self.assertIs(is_rule(value), False, value)
            self.assertTrue(same(value, before))

    def test_reduce_rule(self):
        for p in range(0, 13):
            for q in range(1, 13):
                for c in range(-8, 9):
                    rule = reduce_rule(p, q, c)
                    self.check_counts(rule, lambda time: formula((p, q, c), time))

    def test_reduce_rule_with_large_numbers(self):
        for p, q, c in FAR_RULES:
            for factor in (1, 2, 10 ** 5, 7 ** 60):
                rule = reduce_rule(p * factor, q * factor, c * factor + factor - 1)
                self.assertEqual(rule, (p, q, c))

    def test_count(self):
        for rule in EDGE_RULES + FAR_RULES:
            for time in NEAR + DISTANT:
                self.assertEqual(count(rule, time), formula(rule, time))

    def test_count_sum_term_by_term(self):
        for rule in small_rules(21, 20):
            for start in (-25, -3, 0, 4, FAR, -FAR):
                for length in (-FAR, -4, -1, 0, 1, 2, 9, 31):
                    expected = sum(formula(rule, start + i) for i in range(max(0, length)))
                    self.assertEqual(count_sum(rule, start, start + length), expected)

    def test_count_sum_splits(self):
        source = random.Random(22)
        for rule in small_rules(23, 5) + FAR_RULES:
            for digits in (60, 120, 198):
                start, middle, stop = sorted(source.randint(-10 ** digits, 10 ** digits) for _ in range(3))
                parts = count_sum(rule, start, middle) + count_sum(rule, middle, stop)
                self.assertEqual(count_sum(rule, start, stop), parts)
                self.assertEqual(count_sum(rule, stop, start - 1), 0)
                self.assertEqual(count_sum(rule, stop, stop + 1), formula(rule, stop))

    def test_shift_rule(self):
        for rule in EDGE_RULES + FAR_RULES:
            for time in (0, 1, -1, 5, -17, FAR, -FAR):
                for amount in (0, 1, -1, 9, FAR, -FAR):
                    self.check_counts(shift_rule(rule, time, amount), lambda t: formula(rule, t + time) + amount)

    def test_mirror_rule(self):
        for rule in EDGE_RULES + FAR_RULES:
            self.check_counts(mirror_rule(rule), lambda t: -formula(rule, -t))
            self.assertEqual(mirror_rule(mirror_rule(rule)), rule)

    def test_thin_rule(self):
        for rule in EDGE_RULES + FAR_RULES:
            for k in FACTORS:
                self.check_counts(thin_rule(rule, k), lambda t: formula(rule, t) // k)

    def test_sample_rule(self):
        for rule in EDGE_RULES + FAR_RULES:
            for k in FACTORS:
                self.check_counts(sample_rule(rule, k), lambda t: formula(rule, k * t))

    def test_wrong_arguments(self):
        rule = (2, 5, 1)
        check_errors(self, reduce_rule, {"p": 2, "q": 4, "c": 7}, {
            "p": WRONG_INTEGERS + [(InvalidNumber, -1), (InvalidNumber, -FAR)],
            "q": WRONG_FACTORS, "c": WRONG_INTEGERS})
        check_errors(self, count, {"rule": rule, "time": 3}, {"rule": WRONG_RULES, "time": WRONG_INTEGERS})
        for start, stop in ((0, 5), (5, 0)):
            check_errors(self, count_sum, {"rule": rule, "start": start, "stop": stop},
                         {"rule": WRONG_RULES, "start": WRONG_INTEGERS, "stop": WRONG_INTEGERS})
        check_errors(self, shift_rule, {"rule": rule, "time": 3, "amount": 1},
                     {"rule": WRONG_RULES, "time": WRONG_INTEGERS, "amount": WRONG_INTEGERS})
        check_errors(self, mirror_rule, {"rule": rule}, {"rule": WRONG_RULES})
        check_errors(self, thin_rule, {"rule": rule, "k": 2}, {"rule": WRONG_RULES, "k": WRONG_FACTORS})
        check_errors(self, sample_rule, {"rule": rule, "k": 2}, {"rule": WRONG_RULES, "k": WRONG_FACTORS})


if __name__ == "__main__":
    unittest.main()
