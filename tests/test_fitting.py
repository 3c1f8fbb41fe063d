import copy
import itertools
import random
import unittest
from fractions import Fraction

from leapfit.errors import InvalidRate, InvalidRecord, InvalidRule
from leapfit.evenness import uneven
from leapfit.fitting import fits, phases, rates
from leapfit.fractions import simplest_between
from leapfit.records import count_records
from tests.support import (FAR, FAR_RULES, NO_RATES, NO_RULES, WRONG_LISTS, check_errors, common, fits_record,
                           fitting_records, formula, interval, random_records, same, sample_lists, small_rules, split)

RECORDS = [("at least", 0, 0), ("at most", 4, 1), ("at least", 10, 3)]
WRONG_RECORDS = [(InvalidRecord, value, index) for index, value in WRONG_LISTS]
WRONG_RATES = [(InvalidRate, value) for value in NO_RATES]
WRONG_RULES = [(InvalidRule, value) for value in NO_RULES]

RATES = [(p, q) for q in range(1, 9) for p in range(5 * q + 1) if common(p, q) == 1]


def as_rate(fraction):
    return None if fraction is None else (fraction.numerator, fraction.denominator)


def inside(rate, ends):
    low, high = ends
    value = Fraction(*rate)
    return (low is None or Fraction(*low) < value) and (high is None or value < Fraction(*high))


class FitsTest(unittest.TestCase):
    def test_examples(self):
        self.assertIs(fits((1, 3, 0), [("at least", 6, 2), ("at most", 8, 2)]), True)
        self.assertIs(fits(records=(("at most", 9, 2),), rule=(1, 3, 0)), False)

    def test_no_records(self):
        for rule in small_rules(81, 5) + FAR_RULES:
            self.assertIs(fits(rule, []), True)
            self.assertIs(fits(rule, ()), True)

    def test_one_record(self):
        for rule in small_rules(82, 20) + FAR_RULES:
            for time in (*range(-20, 21), FAR, -FAR):
                right = formula(rule, time)
                for off in (-FAR, -2, -1, 0, 1, 2, FAR):
                    self.assertIs(fits(rule, [("at least", time, right + off)]), off <= 0)
                    self.assertIs(fits(rule, [("at most", time, right + off)]), off >= 0)

    def test_many_records(self):
        source = random.Random(83)
        for rule in small_rules(84, 20) + FAR_RULES:
            for times in (5, FAR):
                records = fitting_records(source, source.randint(1, 200), rule, times, 3)
                self.assertIs(fits(rule, records), True)
                self.assertIs(fits(rule, tuple(records)), True)
                records.insert(source.randrange(len(records)), ("at most", 7, formula(rule, 7) - 1))
                self.assertIs(fits(rule, records[:200]), all(fits_record(rule, record) for record in records[:200]))
        self.assertIs(fits((0, 1, 0), [("at least", 0, 0)] * 200), True)
        self.assertIs(fits((0, 1, 0), [("at least", 0, 0)] * 199 + [("at least", 0, 1)]), False)

    def test_errors(self):
        check_errors(self, fits, {"rule": (1, 3, 0), "records": RECORDS},
                     {"rule": WRONG_RULES, "records": WRONG_RECORDS})
        check_errors(self, fits, {"rule": (1, 3, 0), "records": [("at least", 0, 7)]},
                     {"rule": WRONG_RULES, "records": WRONG_RECORDS})


class RatesTest(unittest.TestCase):
    def test_examples(self):
        self.assertEqual(rates([("at least", 0, 0), ("at most", 4, 1), ("at least", 10, 3)]), ((1, 6), (1, 2)))
        self.assertIsNone(rates([("at least", 0, 3), ("at most", 4, 1)]))
        self.assertEqual(rates(records=tuple(RECORDS)), ((1, 6), (1, 2)))

    def test_no_pairs(self):
        self.assertEqual(rates([]), (None, None))
        self.assertEqual(rates(()), (None, None))
        for word in ("at least", "at most"):
            self.assertEqual(rates([(word, 3, 1)]), (None, None))
            self.assertEqual(rates([(word, 3, 1), (word, 3, 9), (word, 9, -5), (word, -FAR, FAR)]), (None, None))

    def test_one_time(self):
        for time in (0, -3, FAR):
            self.assertEqual(rates([("at least", time, 4), ("at most", time, 4)]), (None, None))
            self.assertEqual(rates([("at most", time, 5), ("at least", time, 4)]), (None, None))
            self.assertIsNone(rates([("at least", time, 5), ("at most", time, 4)]))
            self.assertIsNone(rates([("at most", time, -FAR), ("at least", time, FAR)]))
            steep = [("at least", time + 2, 9), ("at most", time, 0), ("at most", time + 2, 9)]
            self.assertEqual(rates(steep), ((4, 1), None))
            self.assertIsNone(rates(steep + [("at most", time + 2, 8)]))

    def test_ends_at_zero(self):
        self.assertEqual(rates([("at least", 5, 1), ("at most", 0, 0)]), ((0, 1), None))
        self.assertEqual(rates([("at least", 5, 1), ("at most", 0, 1)]), (None, None))
        self.assertEqual(rates([("at least", 5, 2), ("at most", 0, 0)]), ((1, 5), None))
        self.assertEqual(rates([("at least", 0, 0), ("at most", 5, 0)]), (None, (1, 5)))
        self.assertIsNone(rates([("at least", 0, 1), ("at most", 5, 0)]))
        zero_to_fifth = [("at least", 5, 1), ("at most", 0, 0), ("at least", 0, 0), ("at most", 5, 1)]
        self.assertEqual(rates(zero_to_fifth), ((0, 1), (2, 5)))
        self.assertIsNone(rates([("at least", 9, 1), ("at most", 0, 0), ("at least", 1, 1), ("at most", 10, 0)]))

    def test_touching_ends(self):
        # Both ends are excluded: nothing fits if they are equal, even if all numbers are far.
        for scale in (1, 10 ** 100 + 1):
            for n, nothing in ((5, False), (6, True)):
                records = [("at least", 0, 0), ("at most", 5 * scale, 2), ("at least", 10 * scale, n)]
                self.assertEqual(rates(records) is None, nothing)

    def test_pairs(self):
        for records in sample_lists(85, 40):
            right = interval(records)
            found = rates(records)
            self.assertTrue(same(found, right and (as_rate(right[0]), as_rate(right[1]))), records)
            self.assertEqual(rates(tuple(records)), found)

    def test_200_records(self):
        source = random.Random(86)
        for rule, times in (((3, 7, 2), 300), ((3, 7, 2), FAR), ((10 ** 80 + 1, 10 ** 79, -5), FAR)):
            for slack in (0, 3, times):
                records = fitting_records(source, 200, rule, times, slack)
                before = copy.deepcopy(records)
                low, high = interval(records)
                self.assertEqual(rates(records), (as_rate(low), as_rate(high)))
                self.assertTrue(inside(rule[:2], rates(records)))
                self.assertEqual(records, before)
            records = random_records(source, 200, times, times)
            self.assertIsNone(interval(records))
            self.assertIsNone(rates(records))

    def test_all_small_rules(self):
        source = random.Random(87)
        for _ in range(150):
            records = random_records(source, source.randint(1, 5), 3, source.choice((1, 3)))
            found = rates(records)
            for p, q in RATES:
                fitting = any(all(fits_record((p, q, c), record) for record in records)
                              for c in range(-4 * q - 3 * p, 4 * q + 3 * p + 1))
                self.assertEqual(found is not None and inside((p, q), found), fitting, (records, p, q))

    def test_even_lists(self):
        seen = {True: 0, False: 0}
        for counts in itertools.product(range(4), repeat=5):
            self.check_even(list(counts), 0, seen)
        source = random.Random(88)
        for rule in small_rules(89, 20) + FAR_RULES:
            for start in (-9, FAR):
                counts = [formula(rule, start + i) for i in range(100)]
                self.check_even(counts, start, seen)
                counts[source.randrange(100)] += source.choice((-1, 1))
                self.check_even(counts, start, seen)
        self.assertGreater(min(seen.values()), 50)

    def check_even(self, counts, start, seen):
        records = [record for i, number in enumerate(counts) for record in count_records(start + i, number)]
        even = uneven(counts) is None
        self.assertEqual(rates(records) is not None, even, counts)
        seen[even] += 1

    def test_errors(self):
        check_errors(self, rates, {"records": RECORDS}, {"records": WRONG_RECORDS})


class PhasesTest(unittest.TestCase):
    def test_examples(self):
        self.assertEqual(phases([("at least", 0, 0), ("at most", 4, 1), ("at least", 10, 3)], (1, 3)), (0, 1))
        self.assertEqual(phases(rate=(1, 3), records=tuple(RECORDS)), (0, 1))

    def test_missing_bounds(self):
        for rate in ((0, 1), (1, 3), (7, 2), (10 ** 99 + 1, 10 ** 99)):
            p, q = rate
            self.assertEqual(phases([], rate), (None, None))
            self.assertEqual(phases([("at least", 2, 5), ("at least", 2, 3)], rate), (5 * q - 2 * p, None))
            self.assertEqual(phases([("at most", 2, 5), ("at most", 2, 3)], rate), (None, 4 * q - 2 * p - 1))

    def test_all_small_phases(self):
        source = random.Random(90)
        for _ in range(300):
            records = random_records(source, source.randint(1, 5), 4, source.choice((1, 4)))
            p, q = source.choice(RATES)
            span = range(-10 * q - 5 * p, 10 * q + 5 * p + 1)
            right = [c for c in span if all(fits_record((p, q, c), record) for record in records)]
            found = phases(records, (p, q))
            if found is None:
                self.assertEqual(right, [])
                continue
            lows, highs = split(records)
            self.assertEqual(found, (right[0] if lows else None, right[-1] if highs else None))
            self.assertEqual(right, list(range(right[0], right[-1] + 1)))

    def test_near_and_far_lists(self):
        for records in sample_lists(91, 40):
            ends = rates(records)
            for rate in self.rates_near(ends):
                found = phases(records, rate)
                self.assertEqual(found is not None, ends is not None and inside(rate, ends), (records, rate))
                if found is not None:
                    self.check_phases(records, rate, found)

    def rates_near(self, ends):
        """The ends, rates far from them, and rates next to them on both sides."""
        near = [(0, 1), (1, 2), (5, 3), (FAR, 1), (1, FAR)]
        for end in ends or ():
            if end is not None:
                value = Fraction(*end)
                tiny = Fraction(1, 10 ** 250)
                near += [end, as_rate(value + tiny), as_rate(max(Fraction(0), value - tiny))]
        if ends is not None:
            near.append(simplest_between(*ends))
        return near

    def check_phases(self, records, rate, found):
        lows, highs = split(records)
        self.assertIs(type(found), tuple)
        for c, step, bounded in ((found[0], -1, lows), (found[1], 1, highs)):
            self.assertEqual(c is not None, bool(bounded))
            if c is not None:
                self.assertTrue(all(fits_record((*rate, c), record) for record in records))
                self.assertFalse(all(fits_record((*rate, c + step), record) for record in records))

    def test_200_records(self):
        source = random.Random(92)
        for times in (500, FAR):
            records = fitting_records(source, 200, (3, 7, 2), times, 0)
            self.assertEqual(phases(records, (3, 7)), (2, 2))
            records[source.randrange(200)] = ("at most", 7, 2)
            self.assertIsNone(phases(records, (3, 7)))

    def test_errors(self):
        wrong = {"records": WRONG_RECORDS, "rate": WRONG_RATES}
        check_errors(self, phases, {"records": RECORDS, "rate": (1, 3)}, wrong)
        check_errors(self, phases, {"records": [], "rate": (0, 1)}, wrong)
        conflicting = [("at least", 0, 3), ("at most", 4, 1)]
        check_errors(self, phases, {"records": conflicting, "rate": (0, 1)}, wrong)
        for value in ((0, 2), (2, 4), (1, 0)):
            with self.assertRaises(InvalidRate) as caught:
                phases(RECORDS, value)
            self.assertEqual(caught.exception.value, value)


if __name__ == "__main__":
    unittest.main()
