import random
import unittest

from leapfit.errors import InvalidNumber, InvalidRule
from leapfit.patterns import (next_pattern, nth_point, pattern_count, pattern_distances, pattern_rank,
                              pattern_total)
from tests.support import FAR, FAR_RULES, NO_INTEGERS, NO_RULES, check_errors, common, formula, small_rules

RULE = (2, 5, 1)
WRONG_INTEGERS = [(InvalidNumber, value) for value in NO_INTEGERS]
WRONG_WIDTHS = WRONG_INTEGERS + [(InvalidNumber, -1), (InvalidNumber, -FAR)]
WRONG_RULES = [(InvalidRule, value) for value in NO_RULES]


def pattern(rule, width, start):
    return [formula(rule, start + i) - formula(rule, start + i - 1) for i in range(1, width + 1)]


def listed(rule, width):
    """The different patterns in their order."""
    found = []
    for start in range(rule[1]):
        if pattern(rule, width, start) not in found:
            found.append(pattern(rule, width, start))
    return sorted(found)


def listed_distances(starts):
    """The distances between the starts of two cycles, each with its number within the first one."""
    first = starts[:len(starts) // 2]
    distances = [starts[at + 1] - start for at, start in enumerate(first)]
    return [(distance, distances.count(distance)) for distance in sorted(set(distances))]


class PatternsTest(unittest.TestCase):
    def test_examples(self):
        self.assertEqual(pattern_total(RULE, 2), 3)
        self.assertEqual(pattern_rank(RULE, 2, 1), 2)
        self.assertEqual(pattern_count(RULE, 2, 1, 0, 10), 4)
        self.assertEqual(next_pattern(RULE, 2, 2, 2), 4)
        self.assertEqual(pattern_distances(RULE, 2, 1), [(2, 1), (3, 1)])

    def test_keywords(self):
        self.assertEqual(pattern_total(width=2, rule=RULE), 3)
        self.assertEqual(pattern_rank(start=1, width=2, rule=RULE), 2)
        self.assertEqual(pattern_count(stop=10, start=0, rank=1, width=2, rule=RULE), 4)
        self.assertEqual(next_pattern(start=2, rank=2, width=2, rule=RULE), 4)
        self.assertEqual(pattern_distances(rank=1, width=2, rule=RULE), [(2, 1), (3, 1)])

    def test_against_listed_patterns(self):
        for rule in small_rules(51, 20):
            q = rule[1]
            for width in sorted({0, 1, 2, 3, q // 2, max(0, q - 2), q - 1, q, q + 1, 2 * q + 1}):
                patterns = listed(rule, width)
                self.assertEqual(pattern_total(rule, width), len(patterns))
                ranks = [patterns.index(pattern(rule, width, start)) for start in range(2 * q)]
                for start in range(-2 * q, 2 * q):
                    self.assertEqual(pattern_rank(rule, width, start), ranks[start % q], (rule, width, start))
                for rank in range(len(patterns)):
                    self.check_rank(rule, width, rank, ranks)

    def check_rank(self, rule, width, rank, ranks):
        q = rule[1]
        far = FAR // q * q
        for start, stop in ((0, q), (-9, 12), (2, 2), (2, -7), (far + 1, far + q + 4), (1 - far, 6 - far)):
            expected = len([t for t in range(start, stop) if ranks[t % q] == rank])
            self.assertEqual(pattern_count(rule, width, rank, start, stop), expected)
        for start in (-11, 0, 5, far + 2, 1 - far):
            found = next_pattern(rule, width, rank, start)
            expected = start + ranks[start % q:start % q + q].index(rank)
            self.assertEqual(found, expected)
        starts = [start for start in range(2 * q) if ranks[start] == rank]
        self.assertEqual(pattern_distances(rule, width, rank), listed_distances(starts))

    def test_one_pattern_only(self):
        for rule, width in (((0, 1, 5), 0), ((0, 1, 5), 7), ((4, 1, 0), FAR), ((2, 5, 1), 0)):
            self.assertEqual(pattern_total(rule, width), 1)
            self.assertEqual(pattern_rank(rule, width, FAR), 0)
            self.assertEqual(pattern_count(rule, width, 0, -FAR, FAR), 2 * FAR)
            self.assertEqual(next_pattern(rule, width, 0, -FAR), -FAR)
            self.assertEqual(pattern_distances(rule, width, 0), [(1, rule[1])])

    def test_nth_point(self):
        for cycle in range(1, 26):
            for step in range(cycle):
                if common(step, cycle) == 1:
                    for number in range(1, cycle + 1):
                        points = sorted(step * i % cycle for i in range(number))
                        found = [nth_point(step, cycle, number, rank) for rank in range(number)]
                        self.assertEqual(found, points, (step, cycle, number))

    def large_cases(self):
        source = random.Random(52)
        rules = [(10 ** 12 + 39, 10 ** 13 + 37, 5), (1, 10 ** 20, -7), (10 ** 20 - 1, 10 ** 20, 3),
                 (3 ** 70, 2 ** 111, 10 ** 30)] + FAR_RULES
        for rule in rules:
            q = rule[1]
            for digits in (2, 12, 30, 60, 200):
                width = source.randint(0, 10 ** digits)
                yield rule, width, source
            for width in (q - 2, q - 1, q, q + 1, q // 2, q // 3):
                if width >= 0:
                    yield rule, width, source

    def test_large_cases(self):
        for rule, width, source in self.large_cases():
            q = rule[1]
            self.assertEqual(pattern_total(rule, width), min(width + 1, q))
            for _ in range(2):
                start = source.randint(-FAR, FAR)
                rank = pattern_rank(rule, width, start)
                self.assertEqual(next_pattern(rule, width, rank, start), start)
                self.assertEqual(pattern_count(rule, width, rank, start, start + 1), 1)
                self.check_large_rank(rule, width, source.randint(0, min(width, q - 1)), start)
            for rank in (0, min(width, q - 1)):
                self.check_large_rank(rule, width, rank, 0)

    def check_large_rank(self, rule, width, rank, start):
        q = rule[1]
        found = next_pattern(rule, width, rank, start)
        self.assertTrue(found >= start)
        self.assertEqual(pattern_rank(rule, width, found), rank)
        self.assertEqual(pattern_count(rule, width, rank, start, found), 0)
        self.assertEqual(pattern_count(rule, width, rank, start, found + 1), 1)
        distances = pattern_distances(rule, width, rank)
        again = next_pattern(rule, width, rank, found + 1)
        self.assertIn(again - found, [distance for distance, _ in distances])
        self.check_distances(distances, q)
        self.assertEqual(sum(number for _, number in distances), pattern_count(rule, width, rank, 5, 5 + q))

    def check_distances(self, distances, q):
        lengths = [distance for distance, _ in distances]
        self.assertEqual(lengths, sorted(set(lengths)))
        self.assertTrue(1 <= len(lengths) <= 3)
        self.assertTrue(all(number > 0 for _, number in distances))
        self.assertEqual(sum(distance * number for distance, number in distances), q)
        if len(lengths) == 3:
            self.assertEqual(lengths[2], lengths[0] + lengths[1])

    def test_neighbouring_ranks_of_wide_windows(self):
        # A pattern of the width q - 1 tells the remainder, so the ranks are the remainders.
        for rule in FAR_RULES + small_rules(53, 3):
            p, q, c = rule
            for start in (0, -1, FAR, -FAR, 10 ** 50):
                self.assertEqual(pattern_rank(rule, q + 3, start), (p * start + c) % q)

    def test_large_ranks_compare_like_patterns(self):
        # The patterns of a rule with a long cycle, at a small width, can still be listed and compared.
        rule = (618033988749894848204586834367, 10 ** 30, -5)
        source = random.Random(54)
        starts = [source.randint(-10 ** 60, 10 ** 60) for _ in range(150)]
        for width in (1, 4, 30):
            ranks = [pattern_rank(rule, width, start) for start in starts]
            patterns = [pattern(rule, width, start) for start in starts]
            by_rank = sorted(range(150), key=lambda at: (ranks[at], at))
            by_pattern = sorted(range(150), key=lambda at: (patterns[at], at))
            self.assertEqual(by_rank, by_pattern)
            for at in range(149):
                self.assertEqual(ranks[at] == ranks[at + 1], patterns[at] == patterns[at + 1])
        self.assertEqual(sorted(set(pattern_rank(rule, 4, start) for start in starts)), [0, 1, 2, 3, 4])

    def test_changing_a_returned_list_changes_no_later_result(self):
        first = pattern_distances(RULE, 2, 1)
        first[0] = (99, 99)
        first.append(None)
        self.assertEqual(pattern_distances(RULE, 2, 1), [(2, 1), (3, 1)])

    def test_wrong_arguments(self):
        ranks = WRONG_INTEGERS + [(InvalidNumber, -1), (InvalidNumber, 3), (InvalidNumber, FAR)]
        wrong = {"rule": WRONG_RULES, "width": WRONG_WIDTHS, "rank": ranks,
                 "start": WRONG_INTEGERS, "stop": WRONG_INTEGERS}
        check_errors(self, pattern_total, {"rule": RULE, "width": 2}, wrong)
        check_errors(self, pattern_rank, {"rule": RULE, "width": 2, "start": 1}, wrong)
        for stop in (10, -10):
            check_errors(self, pattern_count, {"rule": RULE, "width": 2, "rank": 2, "start": 0, "stop": stop}, wrong)
        check_errors(self, next_pattern, {"rule": RULE, "width": 2, "rank": 0, "start": 1}, wrong)
        check_errors(self, pattern_distances, {"rule": RULE, "width": 2, "rank": 1}, wrong)

    def test_ranks_end_at_the_total(self):
        for rule, width, total in ((RULE, 0, 1), (RULE, 3, 4), (RULE, 4, 5), (RULE, FAR, 5), ((0, 1, 2), 9, 1)):
            self.assertEqual(pattern_total(rule, width), total)
            pattern_distances(rule, width, total - 1)
            check_errors(self, pattern_distances, {"rule": rule, "width": width, "rank": total - 1},
                         {"rule": WRONG_RULES, "width": WRONG_WIDTHS, "rank": [(InvalidNumber, total)]})


if __name__ == "__main__":
    unittest.main()
