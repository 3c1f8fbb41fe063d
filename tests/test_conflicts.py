import copy
import itertools
import random
import unittest

from leapfit.conflicts import blame, conflict, is_conflict
from leapfit.errors import Fitting, InvalidRecord, LeapfitError
from leapfit.fitting import rates
from tests.support import (FAR, FAR_RULES, NO_INTEGERS, WRONG_LISTS, ascending, check_errors, common, fits_record,
                           fitting_records, formula, has_form, interval, random_records, same, sample_lists)

RECORDS = [("at least", 0, 0), ("at most", 5, 1), ("at least", 10, 6)]
FITTING = [("at least", 0, 0), ("at most", 5, 1), ("at least", 10, 3)]
WRONG_RECORDS = [(InvalidRecord, value, index) for index, value in WRONG_LISTS]

# All records of three times and two counts, and rules among which each list of up to three of them that some rule fits
# has one: bounds of their rates have denominators up to 2, so a fraction between two has a denominator up to 4.
TINY = [(word, t, n) for word in ("at least", "at most") for t in (-1, 0, 1) for n in (0, 1)]
TINY_RULES = [(p, q, c) for q in range(1, 5) for p in range(4 * q) if common(p, q) == 1 for c in range(-20, 21)]


def tiny_conflicts():
    """For each set of tiny records, whether no rule fits it."""
    fitting = [{record for record in TINY if fits_record(rule, record)} for rule in TINY_RULES]
    return {picked: not any(known.issuperset(picked) for known in fitting)
            for size in (1, 2, 3) for picked in map(frozenset, itertools.combinations(TINY, size))}


def check_conflict(test, records, found):
    """The indexes are ascending and their records have one of the forms of [54], but no two of three."""
    test.assertTrue(ascending(found, len(records)), found)
    test.assertIn(len(found), (2, 3))
    picked = [records[index] for index in found]
    test.assertTrue(has_form(picked), picked)
    if len(found) == 3:
        test.assertFalse(any(has_form(two) for two in itertools.combinations(picked, 2)), picked)


class ConflictTest(unittest.TestCase):
    def test_examples(self):
        self.assertEqual(conflict([("at least", 0, 0), ("at most", 5, 1), ("at least", 10, 6)]), [0, 1, 2])
        self.assertEqual(conflict(records=tuple(RECORDS)), [0, 1, 2])
        self.assertIsNone(conflict(FITTING))
        self.assertIsNone(conflict([]))

    def test_all_tiny_lists(self):
        known = tiny_conflicts()
        for size in (1, 2, 3):
            for records in itertools.product(TINY, repeat=size):
                found = conflict(records)
                self.assertEqual(found is not None, known[frozenset(records)], records)
                if found is not None:
                    check_conflict(self, records, found)

    def test_near_and_far_lists(self):
        seen = {0: 0, 2: 0, 3: 0}
        for records in sample_lists(101, 60, 150):
            found = conflict(records)
            self.assertEqual(found is None, interval(records) is not None, records)
            self.assertEqual(found is None, rates(records) is not None)
            if found is not None:
                check_conflict(self, records, found)
            seen[len(found or ())] += 1
        self.assertGreater(min(seen.values()), 30)

    def test_a_single_record_that_breaks_the_rule(self):
        source = random.Random(102)
        for rule in [(3, 7, 2), (0, 1, 5), (9, 4, -1)] + FAR_RULES:
            for times in (90, FAR):
                records = fitting_records(source, 200, rule, times, 0)
                at = source.randrange(200)
                word, time, _ = records[at]
                records[at] = (word, time, formula(rule, time) + (2 if word == "at least" else -2))
                found = conflict(records)
                self.assertEqual(found is None, interval(records) is not None)
                if found is not None:
                    check_conflict(self, records, found)
                    self.assertIn(at, found)

    def test_one_middle_among_200(self):
        # All times are far apart, and only one record contradicts two others.
        for word, off in (("at least", 1), ("at most", -1)):
            other = "at most" if word == "at least" else "at least"
            records = [(other, 10 ** 150 * i, 3 * i * 10 ** 40) for i in range(200)]
            self.assertIsNone(conflict(records))
            records[77] = (word, 10 ** 150 * 77, 3 * 77 * 10 ** 40)
            self.assertIsNone(conflict(records))
            records[77] = (word, 10 ** 150 * 77, 3 * 77 * 10 ** 40 + off)
            found = conflict(records)
            check_conflict(self, records, found)
            self.assertIn(77, found)

    def test_equal_records(self):
        records = RECORDS * 66
        check_conflict(self, records, conflict(records))
        self.assertIsNone(conflict(FITTING * 66))

    def test_arguments_and_results_stay_apart(self):
        records = list(RECORDS)
        first = conflict(records)
        self.assertEqual(records, RECORDS)
        first.append(7)
        first[0] = None
        self.assertEqual(conflict(records), [0, 1, 2])

    def test_errors(self):
        check_errors(self, conflict, {"records": RECORDS}, {"records": WRONG_RECORDS})
        self.assertTrue(issubclass(InvalidRecord, LeapfitError))


class IsConflictTest(unittest.TestCase):
    def test_examples(self):
        self.assertIs(is_conflict([("at least", 0, 0), ("at most", 5, 1), ("at least", 10, 6)], [0, 1]), False)
        self.assertIs(is_conflict(value=[0, 1, 2], records=RECORDS), True)
        self.assertIs(is_conflict(tuple(RECORDS), (0, 1, 2)), True)

    def test_all_pairs_and_triples_of_tiny_records(self):
        known = tiny_conflicts()
        for picked in itertools.product(TINY, repeat=2):
            self.assertIs(is_conflict(picked, [0, 1]), known[frozenset(picked)], picked)
        for picked in itertools.product(TINY, repeat=3):
            self.assertIs(is_conflict(picked, [0, 1, 2]), known[frozenset(picked)], picked)

    def test_all_pairs_and_triples_of_indexes(self):
        for records in sample_lists(103, 6, 8):
            number = len(records)
            for size in (2, 3):
                for value in itertools.product(range(-2, number + 2), repeat=size):
                    right = False
                    if ascending(list(value), number):
                        right = interval([records[index] for index in value]) is None
                    self.assertIs(is_conflict(records, list(value)), right, (records, value))
                    self.assertIs(is_conflict(records, value), right)

    def test_two_of_three_may_conflict(self):
        records = [("at least", 0, 3), ("at least", 9, 9), ("at most", 5, 1), ("at most", 90, 90)]
        for value, right in (([0, 2], True), ([0, 1, 2], True), ([0, 2, 3], True), ([0, 1, 2, 3], False),
                             ([1, 2], False), ([0, 1, 3], False), ([0], False), ([], False), ([2], False)):
            self.assertIs(is_conflict(records, value), right, value)

    def test_wrong_indexes(self):
        records = [("at most", 5, 1), ("at least", 0, 3), ("at most", -6, 1)]
        self.assertIs(is_conflict(records, [0, 1]), True)
        self.assertIs(is_conflict(records, [0, 1, 2]), True)
        for value in ([1, 0], [0, 0, 1], [0, 1, 1], [1, 1], [0, 2, 1], [False, True], [0, True], [False, 1],
                      [0, 1, True], [-3, 1], [-3, -2], [0, 1, 3], [1, 3], [0, 10 ** 99], [-10 ** 99, 1], [0, "1"],
                      ["0", "1"], [0, None], [0, [1]], [[0], [1]], [0, (1,)], ((0, 1),), [[0, 1]], {0: 0, 1: 1},
                      {0: 1}, "01", (0, 1, 2, 2), [0, 1] * 150, list(range(300)), records, *NO_INTEGERS):
            before = copy.deepcopy(value)
            self.assertIs(is_conflict(records, value), False, value)
            self.assertTrue(same(value, before))

    def test_found_ones(self):
        for records in sample_lists(104, 60, 20):
            found = conflict(records)
            if found is not None:
                self.assertIs(is_conflict(records, found), True)
                self.assertIs(is_conflict(records, tuple(found)), True)
                self.assertIs(is_conflict(records, found[1:]), False)

    def test_200_records(self):
        records = [("at most", FAR + i, FAR) for i in range(199)] + [("at least", FAR, FAR + 1)]
        self.assertIs(is_conflict(records, [0, 199]), True)
        self.assertIs(is_conflict(records, [198, 199]), True)
        self.assertIs(is_conflict(records, [199, 200]), False)

    def test_errors(self):
        check_errors(self, is_conflict, {"records": RECORDS, "value": [0, 1, 2]},
                     {"records": WRONG_RECORDS, "value": []})
        for value in NO_INTEGERS:
            with self.assertRaises(InvalidRecord) as caught:
                is_conflict([RECORDS[0], None], value)
            self.assertEqual(caught.exception.index, 1)


class BlameTest(unittest.TestCase):
    def test_examples(self):
        self.assertEqual(blame([("at least", 0, 3), ("at least", 9, 9), ("at most", 5, 1)]), [0, 2])
        self.assertEqual(blame(records=tuple(RECORDS)), [0, 1, 2])

    def test_each_one_is_needed(self):
        seen = 0
        for records in sample_lists(105, 60) + [random_records(random.Random(106), 200, FAR, FAR)]:
            if interval(records) is None:
                found = blame(records)
                self.assertTrue(ascending(found, len(records)))
                self.assertIsNone(interval([records[index] for index in found]))
                for index in found:
                    self.assertIsNotNone(interval([records[other] for other in found if other != index]))
                seen += 1
            else:
                self.check_fitting(records)
        self.assertGreater(seen, 40)

    def check_fitting(self, records):
        with self.assertRaises(Fitting) as caught:
            blame(records)
        self.assertIs(type(caught.exception), Fitting)

    def test_fitting(self):
        for records in ([], (), FITTING, tuple(FITTING), [RECORDS[0]] * 200):
            self.check_fitting(records)

    def test_errors(self):
        check_errors(self, blame, {"records": RECORDS}, {"records": WRONG_RECORDS})
        check_errors(self, blame, {"records": FITTING}, {"records": WRONG_RECORDS})


if __name__ == "__main__":
    unittest.main()
