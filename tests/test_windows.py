import random
import unittest

from leapfit.errors import InvalidNumber, InvalidRule
from leapfit.windows import full_windows, next_full, window_range
from tests.support import FAR, FAR_RULES, NO_INTEGERS, NO_RULES, check_errors, formula, small_rules

RULE = (2, 5, 1)
WRONG_INTEGERS = [(InvalidNumber, value) for value in NO_INTEGERS]
WRONG_WIDTHS = WRONG_INTEGERS + [(InvalidNumber, -1), (InvalidNumber, -FAR)]
WRONG_RULES = [(InvalidRule, value) for value in NO_RULES]


def events(rule, width, start):
    return formula(rule, start + width) - formula(rule, start)


def widths_for(rule):
    q = rule[1]
    near = [width + turns * q for turns in (0, 1, 3, FAR) for width in (-1, 0, 1, q // 2)]
    return [width for width in near + [2, 3] if width >= 0]


class WindowsTest(unittest.TestCase):
    def test_examples(self):
        self.assertEqual(window_range(RULE, 3), (1, 2))
        self.assertEqual(full_windows(RULE, 3, 0, 5), 1)
        self.assertEqual(next_full(RULE, 3, 0), 4)

    def test_keywords(self):
        self.assertEqual(window_range(width=3, rule=RULE), (1, 2))
        self.assertEqual(full_windows(stop=5, start=0, width=3, rule=RULE), 1)
        self.assertEqual(next_full(start=0, width=3, rule=RULE), 4)

    def test_by_search(self):
        for rule in small_rules(41, 20):
            for width in widths_for(rule):
                numbers = [events(rule, width, start) for start in range(rule[1])]
                self.assertEqual(window_range(rule, width), (min(numbers), max(numbers)), (rule, width))
                self.check_full(rule, width, max(numbers))

    def check_full(self, rule, width, most):
        for start, stop in ((-20, 11), (0, 1), (3, 3), (3, -50), (FAR, FAR + 19), (-FAR, -FAR + 8)):
            expected = len([t for t in range(start, stop) if events(rule, width, t) == most])
            self.assertEqual(full_windows(rule, width, start, stop), expected, (rule, width, start, stop))
        for start in (-7, 0, 4, FAR, -FAR):
            found = start
            while events(rule, width, found) < most:
                found += 1
            self.assertEqual(next_full(rule, width, start), found, (rule, width, start))

    def test_all_windows_are_full(self):
        for rule in ((0, 1, 4), (3, 1, -2), (1, 1, 0)):
            for width in (0, 1, 5, FAR):
                events_of_each = rule[0] * width
                self.assertEqual(window_range(rule, width), (events_of_each, events_of_each))
                self.assertEqual(full_windows(rule, width, -FAR, FAR), 2 * FAR)
                self.assertEqual(next_full(rule, width, -FAR), -FAR)
        self.assertEqual(full_windows((2, 5, 1), 0, 0, FAR), FAR)
        self.assertEqual(full_windows((2, 5, 1), 5 * FAR, 0, FAR), FAR)

    def test_large_numbers(self):
        source = random.Random(42)
        for rule in FAR_RULES + small_rules(43, 4):
            for _ in range(8):
                width = source.randint(0, 10 ** source.randint(1, 198))
                start, middle, stop = sorted(source.randint(-FAR, FAR) for _ in range(3))
                parts = full_windows(rule, width, start, middle) + full_windows(rule, width, middle, stop)
                self.assertEqual(full_windows(rule, width, start, stop), parts)
                least, most = window_range(rule, width)
                found = next_full(rule, width, start)
                self.assertEqual(events(rule, width, found), most)
                self.assertEqual(full_windows(rule, width, start, found), 0)
                self.assertIn(events(rule, width, middle), (least, most))
                full = full_windows(rule, width, 0, rule[1])
                self.assertEqual(full, rule[0] * width - least * rule[1] if most > least else rule[1])

    def test_wrong_arguments(self):
        check_errors(self, window_range, {"rule": RULE, "width": 3}, {"rule": WRONG_RULES, "width": WRONG_WIDTHS})
        for stop in (5, -5):
            check_errors(self, full_windows, {"rule": RULE, "width": 3, "start": 0, "stop": stop}, {
                "rule": WRONG_RULES, "width": WRONG_WIDTHS, "start": WRONG_INTEGERS, "stop": WRONG_INTEGERS})
        check_errors(self, next_full, {"rule": RULE, "width": 3, "start": 0},
                     {"rule": WRONG_RULES, "width": WRONG_WIDTHS, "start": WRONG_INTEGERS})


if __name__ == "__main__":
    unittest.main()
