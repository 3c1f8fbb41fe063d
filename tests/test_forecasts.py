import copy
import random
import unittest

from leapfit.errors import InvalidNumber, NoRule, NotPossible
from leapfit.forecasts import certify_range, count_range, event_range, is_range_certificate, witness
from leapfit.records import event_records
from tests.support import (CONFLICTING, FAR, FAR_RULES, NO_INTEGERS, RECORDS, ascending, check_forecast_errors,
                           fits_record, fits_some, fitting_lists, fitting_records, formula, interval,
                           looks_like_a_rule, same, small_lists)

CERTIFICATE = ((5, [1, 2], (2, 9, 8)), (7, [0, 3], (7, 18, 1)))


def bounds_exist(records, time):
    """Whether the least and the greatest count exist, by [62]."""
    upper = interval(records)[1] is not None
    return (any(word == "at least" and (t <= time or upper) for word, t, _ in records),
            any(word == "at most" and (t >= time or upper) for word, t, _ in records))


def some_times(source, records):
    """Times at the records, next to them, between them and beyond them."""
    times = [time for _, time, _ in records] or [0]
    far = max(abs(time) for time in times) + 2
    picked = [source.choice(times) for _ in range(2)] + [source.choice(times) + source.choice((-1, 1))]
    return picked + [source.randint(min(times), max(times)), 3 * far, -2 * far, 0]


class CountRangeTest(unittest.TestCase):
    def check_range(self, records, time):
        """The bounds, found by adding a record to the list."""
        found = count_range(records, time)
        self.assertTrue(type(found) is tuple and len(found) == 2)
        least, greatest = found
        self.assertEqual((least is not None, greatest is not None), bounds_exist(records, time))
        if least is None:
            self.assertTrue(fits_some([*records, ("at most", time, -10 ** 300)]))
        else:
            self.assertIs(type(least), int)
            self.assertTrue(fits_some([*records, ("at most", time, least)]))
            self.assertFalse(fits_some([*records, ("at most", time, least - 1)]))
        if greatest is None:
            self.assertTrue(fits_some([*records, ("at least", time, 10 ** 300)]))
        else:
            self.assertIs(type(greatest), int)
            self.assertTrue(fits_some([*records, ("at least", time, greatest)]))
            self.assertFalse(fits_some([*records, ("at least", time, greatest + 1)]))
        return found

    def test_examples(self):
        self.assertEqual(count_range(RECORDS, 20), (5, 7))
        self.assertEqual(count_range([("at least", 0, 4)], -1), (None, None))
        self.assertEqual(count_range(time=20, records=tuple(RECORDS)), (5, 7))

    def test_few_records(self):
        self.assertEqual(count_range([], 5), (None, None))
        self.assertEqual(count_range([("at least", 0, 4)], 0), (4, None))
        self.assertEqual(count_range([("at least", 0, 4)], FAR), (4, None))
        self.assertEqual(count_range([("at most", 0, 4)], 0), (None, 4))
        self.assertEqual(count_range([("at most", 0, 4)], 1), (None, None))
        self.assertEqual(count_range([("at most", 0, 4)], -FAR), (None, 4))
        meeting = [("at least", 5, 2), ("at most", 5, 4)]
        self.assertEqual([count_range(meeting, time) for time in (4, 5, 6)], [(None, 4), (2, 4), (2, None)])

    def test_small_lists(self):
        for records in small_lists(161, 250):
            for time in range(-14, 15):
                self.check_range(records, time)

    def test_near_and_far_lists(self):
        source = random.Random(162)
        for records in fitting_lists(163, 20, 25):
            for time in some_times(source, records):
                self.check_range(records, time)

    def test_all_small_rules(self):
        # The ranges contain the counts of each rule that fits, and are attained.
        rules = [(p, q, c) for q in (1, 2, 3, 5, 7) for p in range(2 * q) for c in range(-12, 13)]
        for records in small_lists(164, 40):
            fitting = [rule for rule in rules if all(fits_record(rule, record) for record in records)]
            for time in (-20, -3, 0, 4, 9, 20):
                least, greatest = count_range(records, time)
                for rule in fitting:
                    self.assertTrue(least is None or least <= formula(rule, time))
                    self.assertTrue(greatest is None or greatest >= formula(rule, time))

    def test_no_bound_is_less_at_a_later_time(self):
        for records in small_lists(165, 60):
            ranges = [count_range(records, time) for time in range(-30, 31)]
            leasts = [low for low, _ in ranges if low is not None]
            greatests = [high for _, high in ranges if high is not None]
            self.assertEqual(leasts, sorted(leasts))
            self.assertEqual(greatests, sorted(greatests))

    def test_a_further_record_narrows_the_range(self):
        source = random.Random(166)
        for records in fitting_lists(167, 12, 15):
            more = [*records, ("at least" if source.random() < 0.5 else "at most", *source.choice(
                [record[1:] for record in records] or [(0, 0)]))]
            if fits_some(more):
                for time in some_times(source, records):
                    least, greatest = count_range(records, time)
                    low, high = count_range(more, time)
                    self.assertTrue(least is None or low is not None and low >= least)
                    self.assertTrue(greatest is None or high is not None and high <= greatest)

    def test_order_and_repeated_records(self):
        source = random.Random(168)
        for records in fitting_lists(169, 12, 10):
            shuffled = records + records[:3]
            source.shuffle(shuffled)
            for time in some_times(source, records):
                self.assertEqual(count_range(shuffled, time), count_range(records, time))

    def test_200_records(self):
        source = random.Random(170)
        for rule, times in (((3, 7, 2), 400), ((3, 7, 2), FAR), (FAR_RULES[5], FAR)):
            records = fitting_records(source, 200, rule, times, 1)
            for time in (records[0][1], 0, 3 * times, -3 * times):
                least, greatest = self.check_range(records, time)
                self.assertTrue(least <= formula(rule, time) <= greatest)

    def test_errors(self):
        check_forecast_errors(self, count_range, {"time": 20})


class EventRangeTest(unittest.TestCase):
    def check_events(self, records, event):
        earliest, latest = found = event_range(records, event)
        self.assertTrue(type(found) is tuple)
        far = 10 ** 220
        if earliest is None:
            self.assertTrue(fits_some([*records, ("at least", -far, event)]))
        else:
            self.assertIs(type(earliest), int)
            self.assertTrue(fits_some([*records, ("at least", earliest, event)]))
            self.assertFalse(fits_some([*records, ("at least", earliest - 1, event)]))
            greatest = count_range(records, earliest - 1)[1]
            self.assertTrue(greatest is not None and greatest < event)
        if latest is None:
            self.assertTrue(fits_some([*records, ("at most", far, event - 1)]))
        else:
            self.assertIs(type(latest), int)
            self.assertFalse(fits_some([*records, ("at most", latest, event - 1)]))
            self.assertTrue(fits_some([*records, ("at most", latest - 1, event - 1)]))
            self.assertGreaterEqual(count_range(records, latest)[0], event)
        return found

    def check_between(self, records, event, times):
        for time in times:
            self.assertTrue(fits_some(records + event_records(event, time)), (records, event, time))

    def test_examples(self):
        self.assertEqual(event_range(RECORDS, 5), (13, 20))
        self.assertEqual(event_range(event=5, records=tuple(RECORDS)), (13, 20))

    def test_few_records(self):
        self.assertEqual(event_range([], 0), (None, None))
        self.assertEqual(event_range([("at least", 4, 2)], 2), (None, 4))
        self.assertEqual(event_range([("at least", 4, 2)], 3), (None, None))
        self.assertEqual(event_range([("at most", 4, 2)], 3), (5, None))
        self.assertEqual(event_range([("at most", 4, 2)], 2), (None, None))
        self.assertEqual(event_range([("at least", 4, 2), ("at most", 4, 2)], 2), (None, 4))
        self.assertEqual(event_range([("at least", 4, 2), ("at most", 4, 2)], 3), (5, None))
        self.assertEqual(event_range([("at most", 0, 0), ("at least", 4, 2)], 1), (1, 4))
        self.assertEqual(event_range([("at least", 0, 0), ("at most", 9, 0)], 0), (None, 0))
        self.assertEqual(event_range([("at least", 0, 0), ("at most", 9, 0)], -1), (None, -9))

    def test_small_lists(self):
        for records in small_lists(171, 250):
            for event in range(-9, 10):
                earliest, latest = self.check_events(records, event)
                first = -25 if earliest is None else earliest
                last = 25 if latest is None else latest
                self.check_between(records, event, range(max(-40, first), min(41, last + 1), 3))
                self.check_between(records, event, [time for time in (earliest, latest) if time is not None])

    def test_near_and_far_lists(self):
        source = random.Random(172)
        for records in fitting_lists(173, 15, 20):
            counts = [number for _, _, number in records] or [0]
            for event in (source.choice(counts), source.choice(counts) + source.randint(-3, 3), 3 * max(counts) + 1, 0):
                earliest, latest = self.check_events(records, event)
                picked = [time for time in (earliest, latest) if time is not None]
                if len(picked) == 2:
                    self.assertLessEqual(earliest, latest)
                    picked.append(source.randint(earliest, latest))
                self.check_between(records, event, picked)

    def test_order_and_200_records(self):
        source = random.Random(174)
        for rule, times in (((3, 7, 2), 400), (FAR_RULES[0], FAR)):
            records = fitting_records(source, 200, rule, times, 1)
            event = formula(rule, times // 2)
            found = self.check_events(records, event)
            source.shuffle(records)
            self.assertEqual(event_range(tuple(records), event), found)

    def test_errors(self):
        check_forecast_errors(self, event_range, {"event": 5})


class WitnessTest(unittest.TestCase):
    def check_witness(self, records, time, number):
        found = witness(records, time, number)
        self.assertTrue(looks_like_a_rule(found))
        self.assertTrue(all(fits_record(found, record) for record in records))
        self.assertEqual(formula(found, time), number)

    def check_not_possible(self, records, time, number):
        with self.assertRaises(NotPossible) as caught:
            witness(records, time, number)
        self.assertIs(type(caught.exception), NotPossible)
        self.assertEqual(caught.exception.value, number)

    def test_examples(self):
        self.assertEqual(formula(witness(RECORDS, 20, 6), 20), 6)
        self.assertEqual(formula(witness(count=6, time=20, records=tuple(RECORDS)), 20), 6)

    def test_small_lists(self):
        for records in small_lists(175, 120):
            for time in (-13, -4, 0, 3, 8, 13):
                self.check_counts(records, time)

    def check_counts(self, records, time):
        least, greatest = count_range(records, time)
        if least is not None:
            self.check_witness(records, time, least)
            self.check_not_possible(records, time, least - 1)
            self.check_not_possible(records, time, least - FAR)
        elif greatest is None:
            self.check_witness(records, time, 0)
        if greatest is not None:
            self.check_witness(records, time, greatest)
            self.check_not_possible(records, time, greatest + 1)
        if least is None:
            self.check_witness(records, time, -10 ** 150)
        if greatest is None:
            self.check_witness(records, time, 10 ** 150)
        if least is not None and greatest is not None:
            step = max(1, (greatest - least) // 7)
            for number in range(least, greatest + 1, step):
                self.check_witness(records, time, number)

    def test_near_and_far_lists(self):
        source = random.Random(176)
        for records in fitting_lists(177, 12, 8):
            if max([abs(number) for _, _, number in records] or [0]) < 10 ** 140:
                for time in some_times(source, records)[:4] + [10 ** 40, -10 ** 40 - 7]:
                    self.check_counts(records, time)

    def test_199_and_200_records(self):
        source = random.Random(178)
        for number in (199, 200):
            self.check_counts(fitting_records(source, number, (3, 7, 2), 400, 0), 1000)

    def test_errors(self):
        check_forecast_errors(self, witness, {"time": 20, "count": 6})
        for value in NO_INTEGERS:
            with self.assertRaises(InvalidNumber):
                witness(CONFLICTING, 20, value)


def right_part(records, word, time, part):
    """Whether this is a part of a certificate by [64], with a list in the place of a list."""
    if type(part) is not tuple or len(part) != 3:
        return False
    number, indexes, rule = part
    if type(number) is not int or not ascending(indexes, len(records)) or len(indexes) > 2:
        return False
    contrary = (word, time, number - 1 if word == "at most" else number + 1)
    if interval([records[index] for index in indexes] + [contrary]) is not None:
        return False
    return (looks_like_a_rule(rule) and all(fits_record(rule, record) for record in records)
            and formula(rule, time) == number)


def right_certificate(records, time, value):
    if type(value) is not tuple or len(value) != 2:
        return False
    return all(right_part(records, word, time, part) if exists else part is None
               for word, part, exists in zip(("at most", "at least"), value, bounds_exist(records, time)))


class CertificateTest(unittest.TestCase):
    def check_certificate(self, records, time):
        found = certify_range(records, time)
        self.assertTrue(right_certificate(records, time, found), (records, time, found))
        self.assertEqual(tuple(None if part is None else part[0] for part in found), count_range(records, time))
        self.assertIs(is_range_certificate(records, time, found), True)
        return found

    def test_examples(self):
        self.assertIs(is_range_certificate(RECORDS, 20, certify_range(RECORDS, 20)), True)
        self.assertIs(is_range_certificate(RECORDS, 20, CERTIFICATE), True)
        self.assertIs(is_range_certificate(value=CERTIFICATE, time=20, records=tuple(RECORDS)), True)
        self.assertEqual(certify_range(time=20, records=tuple(RECORDS)), certify_range(RECORDS, 20))

    def test_small_lists(self):
        for records in small_lists(179, 120):
            for time in range(-14, 15, 2):
                self.check_certificate(records, time)

    def test_near_and_far_lists(self):
        source = random.Random(180)
        for records in fitting_lists(181, 15, 8):
            for time in some_times(source, records):
                self.check_certificate(records, time)

    def test_199_and_200_records(self):
        source = random.Random(182)
        for number in (199, 200):
            for rule, times in (((3, 7, 2), 400), (FAR_RULES[0], FAR)):
                records = fitting_records(source, number, rule, times, 1)
                for time in (0, 3 * times, records[-1][1]):
                    self.check_certificate(records, time)
            records = [("at least", 9, -9)] * (number - 1) + [("at least", 9, 5)]
            low, high = certify_range(records, 11)
            self.assertEqual((low[:2], high), ((5, [number - 1]), None))

    def test_tuples(self):
        low, high = CERTIFICATE
        self.assertIs(is_range_certificate(RECORDS, 20, ((5, (1, 2), low[2]), (7, (0, 3), high[2]))), True)
        for value in (list(CERTIFICATE), (list(low), high), (low, list(high)), ((5, [1, 2], [2, 9, 8]), high)):
            self.assertIs(is_range_certificate(RECORDS, 20, value), False)

    def test_one_part_changed(self):
        low, high = CERTIFICATE
        for part in ((5, [1, 2], (1, 4, 2)), (5, [1, 2], (1, 4, 3))):
            self.assertIs(is_range_certificate(RECORDS, 20, (part, high)), True)
        for part in ((4, [1, 2], (2, 9, 8)), (6, [1, 2], (2, 9, 8)), (6, [1, 2], (1, 3, 0)), (5, [0, 2], (2, 9, 8)),
                     (5, [1], (2, 9, 8)), (5, [2], (2, 9, 8)), (5, [], (2, 9, 8)), (5, [2, 1], (2, 9, 8)),
                     (5, [1, 1, 2], (2, 9, 8)), (5, [0, 1, 2], (2, 9, 8)), (5, [1, 2, 3], (2, 9, 8)),
                     (5, [1, 2, 4], (2, 9, 8)), (5, [1, 4], (2, 9, 8)), (5, [-3, -2], (2, 9, 8)),
                     (5, [True, 2], (2, 9, 8)), (5, [1, 2], (1, 3, 0)), (5, [1, 2], (4, 18, 16)), (5, [1, 2], (0, 1, 5)),
                     (5, [1, 2], (2, 9, 9)), (5, [1, 2], None), (None, [1, 2], (2, 9, 8)), (True, [1, 2], (2, 9, 8)),
                     ("5", [1, 2], (2, 9, 8)), (5, [1, 2]), (5, (2, 9, 8)), (5, (2, 9, 8), [1, 2]), low + (None,),
                     (5, None, (2, 9, 8)), (5, 12, (2, 9, 8)), (5, {1: 1, 2: 2}, (2, 9, 8)), (5, "12", (2, 9, 8)),
                     None, high, (5,), 5, [], *NO_INTEGERS):
            before = copy.deepcopy(part)
            self.assertIs(is_range_certificate(RECORDS, 20, (part, high)), False, part)
            self.assertTrue(same(part, before))
        for part in (low, None, (7, [0, 3], (2, 9, 8)), (8, [0, 3], (7, 18, 1)), (7, [0, 2], (7, 18, 1)),
                     (7, [0], (7, 18, 1)), (6, [0, 3], (1, 3, 0)), *NO_INTEGERS):
            self.assertIs(is_range_certificate(RECORDS, 20, (low, part)), False, part)

    def test_other_objects(self):
        low, high = CERTIFICATE
        for value in (low, (low,), (low, high, high), (high, low), (low, low), (high, high), (None, None), (low, None),
                      (None, high), (CERTIFICATE,), {"low": low, "high": high}, {0: low, 1: high}, "low", 20,
                      (low, high) * 200, *NO_INTEGERS):
            before = copy.deepcopy(value)
            self.assertIs(is_range_certificate(RECORDS, 20, value), False, value)
            self.assertTrue(same(value, before))

    def test_bounds_that_do_not_exist(self):
        self.assertIs(is_range_certificate([], 0, (None, None)), True)
        self.assertIs(is_range_certificate([("at least", 0, 4)], -1, (None, None)), True)
        self.assertIs(is_range_certificate([("at least", 0, 4)], 0, (None, None)), False)
        self.assertIs(is_range_certificate([("at least", 0, 4)], 0, ((4, [0], (0, 1, 4)), None)), True)
        self.assertIs(is_range_certificate([("at least", 0, 4)], -1, ((4, [0], (0, 1, 4)), None)), False)
        self.assertIs(is_range_certificate([("at least", 0, 4)], 0, ((4, [0], (0, 1, 4)), (4, [0], (0, 1, 4)))), False)

    def test_true_is_no_count(self):
        for number, other in ((1, True), (0, False)):
            records = [("at least", 3, number), ("at most", 3, number)]
            parts = [((low, [0], (0, 1, number)), (high, [1], (0, 1, number)))
                     for low, high in ((number, number), (other, number), (number, other))]
            self.assertEqual([is_range_certificate(records, 3, part) for part in parts], [True, False, False])

    def test_of_another_time_or_list(self):
        seen = {True: 0, False: 0}
        for records in small_lists(183, 60):
            found = certify_range(records, 5)
            for time in (4, 6, -5, 50):
                right = right_certificate(records, time, found)
                self.assertIs(is_range_certificate(records, time, found), right)
                seen[right] += 1
            for other in (records[1:], records[::-1], [*records, *records]):
                right = right_certificate(other, 5, found)
                self.assertIs(is_range_certificate(other, 5, found), right)
                seen[right] += 1
        self.assertGreater(min(seen.values()), 20)

    def test_returned_lists_belong_to_the_caller(self):
        before = copy.deepcopy(certify_range(RECORDS, 20))
        found = certify_range(RECORDS, 20)
        found[0][1].clear()
        found[1][1].append(9)
        self.assertEqual(certify_range(RECORDS, 20), before)

    def test_errors(self):
        check_forecast_errors(self, certify_range, {"time": 20})
        check_forecast_errors(self, is_range_certificate, {"time": 20, "value": CERTIFICATE}, ["value"])
        for value in [CERTIFICATE, (None, None), 5, *NO_INTEGERS]:
            with self.assertRaises(NoRule):
                is_range_certificate(CONFLICTING, 20, value)


if __name__ == "__main__":
    unittest.main()
