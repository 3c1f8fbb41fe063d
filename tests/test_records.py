import copy
import unittest

from leapfit.errors import InvalidNumber
from leapfit.records import count_records, event_records, is_record
from tests.support import (FAR, FAR_RULES, NO_INTEGERS, NO_RECORDS, check_errors, fits_record, formula, same,
                           small_rules)

WRONG_INTEGERS = [(InvalidNumber, value) for value in NO_INTEGERS]


class RecordsTest(unittest.TestCase):
    def test_examples(self):
        self.assertIs(is_record(("at least", 3, True)), False)
        self.assertEqual(count_records(4, 2), [("at least", 4, 2), ("at most", 4, 2)])
        self.assertEqual(event_records(2, 5), [("at least", 5, 2), ("at most", 4, 1)])

    def test_keywords(self):
        self.assertIs(is_record(value=("at least", 3, 1)), True)
        self.assertEqual(count_records(count=2, time=4), [("at least", 4, 2), ("at most", 4, 2)])
        self.assertEqual(event_records(time=5, event=2), [("at least", 5, 2), ("at most", 4, 1)])

    def test_records(self):
        for word in ("at least", "at most"):
            for time in (0, 1, -1, 10 ** 299, -FAR):
                for number in (0, 5, -5, 10 ** 299, -FAR):
                    self.assertIs(is_record((word, time, number)), True)

    def test_other_objects(self):
        for value in NO_RECORDS:
            before = copy.deepcopy(value)
            self.assertIs(is_record(value), False, value)
            self.assertTrue(same(value, before))

    def test_count_records(self):
        for rule in small_rules(61, 20):
            for time in (-7, 0, 3, FAR):
                right = formula(rule, time)
                for number in range(right - 3, right + 4):
                    records = count_records(time, number)
                    self.check_form(records)
                    self.assertEqual(all(fits_record(rule, record) for record in records), number == right)

    def test_event_records(self):
        for rule in small_rules(62, 20) + FAR_RULES:
            for time in (-7, 0, 3, FAR, -FAR):
                low, high = formula(rule, time - 1), formula(rule, time)
                for event in {*range(low - 3, low + 4), *range(high - 3, high + 4)}:
                    records = event_records(event, time)
                    self.check_form(records)
                    happens = low < event <= high
                    self.assertEqual(all(fits_record(rule, record) for record in records), happens)

    def check_form(self, records):
        self.assertIs(type(records), list)
        self.assertEqual([record[0] for record in records], ["at least", "at most"])
        self.assertTrue(all(is_record(record) for record in records))

    def test_changed_results(self):
        for function in (count_records, event_records):
            before = function(4, 2)
            result = function(4, 2)
            result.append("x")
            result[0] = None
            self.assertEqual(function(4, 2), before)

    def test_wrong_arguments(self):
        wrong = {"time": WRONG_INTEGERS, "count": WRONG_INTEGERS, "event": WRONG_INTEGERS}
        check_errors(self, count_records, {"time": 4, "count": 2}, wrong)
        check_errors(self, event_records, {"event": 2, "time": 5}, wrong)


if __name__ == "__main__":
    unittest.main()
