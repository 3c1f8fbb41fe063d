import random
import unittest

from leapfit.cycles import count_pairs, count_rules, index_of, least_cycle, least_rule, rule_at
from leapfit.errors import Unbounded
from leapfit.fitting import rates
from leapfit.forecasts import count_range, event_range
from leapfit.rules import mirror_rule, shift_rule
from leapfit.spreads import count_settled, next_open, next_settled, spread, spread_sum
from tests.support import (FAR, RECORDS, bounded_lists, check_forecast_errors, fitting_lists, fitting_records, fits_record,
                           formula, random_rule, small_lists)

TIMES = range(-30, 31)
MEETING = [("at least", 5, 2), ("at most", 5, 2)]


def spread_by_range(records, time):
    least, greatest = count_range(records, time)
    return None if least is None or greatest is None else greatest - least


def settling_lists(seed, number, times, most=20):
    """Lists of counts of a rule at such times, exact ones, so that many other times are settled."""
    source = random.Random(seed)
    found = []
    for _ in range(number):
        rule = random_rule(source, source.choice((3, 12, times)))
        reach = source.choice((times, times // 3 + 1))
        found.append([record for _ in range(source.randint(2, most)) for record in pinned(source, rule, reach)])
    return found


def pinned(source, rule, times):
    """The exact count at a time, where it is most telling or anywhere."""
    time = source.randint(-times, times)
    number = formula(rule, time)
    return [("at least", time, number), ("at most", time, number)]


def narrow_list(digits):
    """Records that leave only rates close to the golden ratio: next to the best approximations, of so many digits."""
    p, q, number = 1, 1, 0
    records = []
    while len(str(q)) < digits and len(records) < 198:
        p, q, number = p + q, p, number + 1
        records.append(("at most", q, p - 1) if number % 2 else ("at least", q, p))
    return [("at least", 0, 0), ("at most", 0, 0)] + records


def mirrored(records):
    return [("at most" if word == "at least" else "at least", -t, -n) for word, t, n in records]


def shifted(records, time, amount):
    """The records that a rule fits exactly if shift_rule(rule, time, amount) does."""
    return [(word, t - time, n + amount) for word, t, n in records]


class SpreadTest(unittest.TestCase):
    def test_examples(self):
        self.assertEqual(spread(RECORDS, 20), 2)
        self.assertEqual(spread(time=20, records=tuple(RECORDS)), 2)

    def test_against_ranges(self):
        for records in small_lists(191, 200) + settling_lists(192, 40, 25):
            for time in range(-15, 16):
                self.assertEqual(spread(records, time), spread_by_range(records, time))

    def test_none(self):
        for records in ([], [("at least", 0, 0)], [("at most", 0, 0)]):
            for time in (-FAR, 0, FAR):
                self.assertIsNone(spread(records, time))
        self.assertEqual([spread(MEETING, time) for time in (4, 5, 6)], [None, 0, None])

    def test_errors(self):
        check_forecast_errors(self, spread, {"time": 20})


class SpreadSumTest(unittest.TestCase):
    def check_sum(self, records, spreads, start, stop):
        part = [spreads[time] for time in range(start, stop)]
        if None in part:
            self.check_unbounded(records, start, stop)
        else:
            self.assertEqual(spread_sum(records, start, stop), sum(part), (records, start, stop))

    def check_unbounded(self, records, start, stop):
        with self.assertRaises(Unbounded) as caught:
            spread_sum(records, start, stop)
        self.assertIs(type(caught.exception), Unbounded)

    def test_examples(self):
        self.assertEqual(spread_sum(RECORDS, 10, 13), 2)
        self.assertEqual(spread_sum(stop=13, start=10, records=tuple(RECORDS)), 2)

    def test_against_ranges(self):
        source = random.Random(193)
        for records in small_lists(194, 200) + settling_lists(195, 60, 25):
            spreads = {time: spread_by_range(records, time) for time in TIMES}
            self.check_sum(records, spreads, -30, 31)
            for _ in range(12):
                start, stop = source.choice(TIMES), source.choice(TIMES)
                self.check_sum(records, spreads, start, stop)

    def test_empty_ranges(self):
        for records in small_lists(196, 20):
            for start, stop in ((0, 0), (5, 4), (FAR, -FAR), (-FAR, -FAR)):
                self.assertEqual(spread_sum(records, start, stop), 0)
                self.assertEqual(count_settled(records, start, stop), 0)

    def test_one_bound_is_missing(self):
        for records in ([], [("at least", 0, 0)], [("at most", 0, 0)]):
            self.check_unbounded(records, 0, 1)
        self.assertEqual(spread_sum(MEETING, 5, 6), 0)
        self.check_unbounded(MEETING, 4, 6)
        self.check_unbounded(MEETING, 5, 7)
        self.check_unbounded(MEETING, -FAR, FAR)
        self.check_unbounded([("at least", 7, 2), ("at most", 4, 2)], 5, 6)

    def test_parts(self):
        source = random.Random(197)
        for records in settling_lists(198, 30, 10 ** 30) + bounded_lists(199, 30) + [narrow_list(30)]:
            for _ in range(4):
                start, middle, stop = sorted(source.randint(-10 ** 31, 10 ** 31) for _ in range(3))
                whole = spread_sum(records, start, stop)
                self.assertEqual(whole, spread_sum(records, start, middle) + spread_sum(records, middle, stop))
                self.assertEqual(spread_sum(records, middle, middle + 1), spread(records, middle))
                near = sum(spread(records, time) for time in range(middle, middle + 12))
                self.assertEqual(spread_sum(records, middle, middle + 12), near)

    def test_at_the_records(self):
        # The bounds turn at the times of the records.
        source = random.Random(200)
        for records in settling_lists(201, 20, 10 ** 30) + [narrow_list(12), narrow_list(60)]:
            for _ in range(4):
                time = source.choice(records)[1]
                near = sum(spread(records, time + step) for step in range(-6, 7))
                self.assertEqual(spread_sum(records, time - 6, time + 7), near)

    def test_200_records(self):
        for records in (narrow_list(300), settling_lists(202, 1, 10 ** 290, 100)[0]):
            self.assertEqual(spread_sum(records, -FAR, FAR),
                             spread_sum(records, -FAR, 7) + spread_sum(records, 7, FAR))

    def test_errors(self):
        check_forecast_errors(self, spread_sum, {"start": 0, "stop": 11})
        check_forecast_errors(self, spread_sum, {"start": 11, "stop": 0})


class SettledTest(unittest.TestCase):
    def test_examples(self):
        self.assertEqual(count_settled(RECORDS, 0, 11), 2)
        self.assertEqual(next_open(RECORDS, 10), 11)
        self.assertEqual(next_settled(RECORDS, 1), 10)
        self.assertEqual(count_settled(stop=11, start=0, records=tuple(RECORDS)), 2)
        self.assertEqual(next_open(time=10, records=tuple(RECORDS)), 11)
        self.assertEqual(next_settled(time=1, records=tuple(RECORDS)), 10)

    def test_against_ranges(self):
        source = random.Random(203)
        seen = {}
        for records in small_lists(204, 200) + settling_lists(205, 80, 25):
            spreads = {time: spread_by_range(records, time) for time in TIMES}
            found = count_settled(records, -30, 31)
            self.assertEqual(found, list(spreads.values()).count(0), records)
            seen[found] = seen.get(found, 0) + 1
            for _ in range(8):
                start, stop = source.choice(TIMES), source.choice(TIMES)
                right = sum(spreads[time] == 0 for time in range(start, stop))
                self.assertEqual(count_settled(records, start, stop), right, (records, start, stop))
            self.check_next(records, spreads, source)
        self.assertGreater(len(seen), 20)

    def check_next(self, records, spreads, source):
        for time in source.sample(TIMES, 8):
            first = next((t for t in range(time, 31) if spreads[t] != 0), 31)
            found = next_open(records, time)
            self.assertIs(type(found), int)
            if first < 31:
                self.assertEqual(found, first)
            else:
                self.check_far(records, time, found, None)
            first = next((t for t in range(time, 31) if spreads[t] == 0), None)
            found = next_settled(records, time)
            if first is not None:
                self.assertEqual(found, first)
            else:
                self.check_far(records, time, None, found)

    def check_far(self, records, time, opened, settled):
        """By the number of settled times: none before the settled one, and all before the open one."""
        if opened is not None:
            self.assertGreaterEqual(opened, time)
            self.assertEqual(count_settled(records, time, opened), opened - time)
            self.assertNotEqual(spread(records, opened), 0)
            self.assertEqual(next_open(records, opened), opened)
        if settled is not None:
            self.assertGreaterEqual(settled, time)
            self.assertEqual(count_settled(records, time, settled), 0)
            self.assertEqual(spread(records, settled), 0)
            self.assertEqual(next_settled(records, settled), settled)
        elif opened is None:
            self.assertEqual(count_settled(records, time, time + 10 ** 250), 0)

    def test_far_lists(self):
        source = random.Random(206)
        seen = {True: 0, False: 0}
        for records in settling_lists(207, 40, 10 ** 30) + [narrow_list(30), narrow_list(100)] + bounded_lists(208, 20):
            times = [record[1] for record in records]
            for time in (source.choice(times), source.choice(times) + 1, min(times) - 10 ** 29, max(times) + 5,
                         source.randint(min(times), max(times))):
                settled = next_settled(records, time)
                self.check_far(records, time, next_open(records, time), None)
                self.check_far(records, time, None, settled)
                seen[settled is None] += 1
        self.assertGreater(min(seen.values()), 30)

    def test_parts(self):
        source = random.Random(209)
        for records in settling_lists(210, 30, 10 ** 30) + [narrow_list(30), narrow_list(300)]:
            for _ in range(4):
                start, middle, stop = sorted(source.randint(-10 ** 31, 10 ** 31) for _ in range(3))
                whole = count_settled(records, start, stop)
                self.assertEqual(whole, count_settled(records, start, middle) + count_settled(records, middle, stop))
                self.assertEqual(count_settled(records, middle, middle + 1), int(spread(records, middle) == 0))

    def test_few_records(self):
        for records in ([], [("at least", 0, 0)], [("at most", 0, 0)], [("at least", 9, 2), ("at most", 3, 2)],
                        [("at least", 5, 2), ("at most", 5, 3)]):
            self.assertEqual(count_settled(records, -FAR, FAR), 0)
            for time in (-FAR, 0, 5, FAR):
                self.assertEqual(next_open(records, time), time)
                self.assertIsNone(next_settled(records, time))
        self.assertEqual(count_settled(MEETING, -FAR, FAR), 1)
        self.assertEqual([next_open(MEETING, time) for time in (4, 5, 6)], [4, 6, 6])
        self.assertEqual([next_settled(MEETING, time) for time in (-FAR, 5, 6)], [5, 5, None])

    def test_long_settled_stretch(self):
        flat = [("at least", -FAR, 4), ("at most", FAR, 4)]
        self.assertEqual(next_open(flat, -FAR), FAR + 1)
        self.assertEqual(next_settled(flat, -10 ** 290), -FAR)
        self.assertEqual(count_settled(flat, -10 ** 290, 10 ** 290), 2 * FAR + 1)
        self.assertEqual(spread_sum(flat, -FAR, FAR + 1), 0)

    def test_errors(self):
        check_forecast_errors(self, count_settled, {"start": 0, "stop": 11})
        check_forecast_errors(self, count_settled, {"start": 11, "stop": 0})
        check_forecast_errors(self, next_open, {"time": 10})
        check_forecast_errors(self, next_settled, {"time": 1})


class MovedTest(unittest.TestCase):
    """Records that are mirrored or shifted: the answers move as the rules do."""

    def lists(self, seed):
        return small_lists(seed, 60) + bounded_lists(seed + 1, 20) + settling_lists(seed + 2, 15, 25) + fitting_lists(
            seed + 3, 8, 6)

    def times(self, records):
        return [time for _, time, _ in records][:4] + [0, -7, 13, 10 ** 40]

    def test_mirrored(self):
        for records in self.lists(211):
            other = mirrored(records)
            self.assertEqual(rates(other), rates(records))
            self.assertEqual(least_cycle(other), least_cycle(records))
            rule = least_rule(records)
            self.assertTrue(all(fits_record(mirror_rule(rule), record) for record in other))
            for time in self.times(records):
                least, greatest = count_range(records, time)
                moved = (None if greatest is None else -greatest, None if least is None else -least)
                self.assertEqual(count_range(other, -time), moved)
                self.assertEqual(spread(other, -time), spread(records, time))
                self.assertEqual(count_settled(other, -time - 9, 20 - time), count_settled(records, time - 19, time + 10))
            for event in (-5, 0, 3):
                # Event m happens at t exactly if the mirrored rule's event 1 - m happens at 1 - t.
                earliest, latest = event_range(records, event)
                moved = (None if latest is None else 1 - latest, None if earliest is None else 1 - earliest)
                self.assertEqual(event_range(other, 1 - event), moved)

    def test_shifted(self):
        time, amount = 123456789012345678901234567890, -987654321098765432109876543210
        for records in self.lists(221):
            other = shifted(records, time, amount)
            self.assertEqual(rates(other), rates(records))
            rule = shift_rule(least_rule(records), time, amount)
            self.assertEqual(least_cycle(other), rule[1])
            if records:
                self.assertEqual(least_rule(other), rule)
            for at in self.times(records):
                least, greatest = count_range(records, at)
                moved = (None if least is None else least + amount, None if greatest is None else greatest + amount)
                self.assertEqual(count_range(other, at - time), moved)
                self.assertEqual(spread(other, at - time), spread(records, at))
                self.assertEqual(count_settled(other, at - time - 9, at - time + 9), count_settled(records, at - 9, at + 9))
                self.assertEqual(next_open(other, at - time), next_open(records, at) - time)
                found = next_settled(records, at)
                self.assertEqual(next_settled(other, at - time), None if found is None else found - time)

    def test_numbers_of_rules(self):
        time, amount = -123456789012345678901234567890, 987654321098765432109876543210
        for records in bounded_lists(231, 40):
            for cycle in (1, 4, 6, 7, 9699690, 10 ** 8):
                pairs, rules = count_pairs(records, cycle), count_rules(records, cycle)
                for other in (mirrored(records), shifted(records, time, amount)):
                    self.assertEqual(count_pairs(other, cycle), pairs)
                    self.assertEqual(count_rules(other, cycle), rules)
                for index in {0, rules // 2, rules - 1} if rules > 0 else ():
                    rule = rule_at(records, cycle, index)
                    moved = shift_rule(rule, time, amount)
                    self.assertEqual(rule_at(shifted(records, time, amount), cycle, index), moved)
                    self.assertGreaterEqual(index_of(mirrored(records), mirror_rule(rule)), 0)

    def test_spread_sums(self):
        for records in settling_lists(232, 30, 10 ** 20):
            whole = spread_sum(records, -10 ** 25, 10 ** 24)
            self.assertEqual(spread_sum(mirrored(records), 1 - 10 ** 24, 1 + 10 ** 25), whole)
            self.assertEqual(spread_sum(shifted(records, 10 ** 25, FAR), -2 * 10 ** 25, 10 ** 24 - 10 ** 25), whole)

    def test_order_and_repeated_records(self):
        source = random.Random(233)
        for records in settling_lists(234, 30, 25):
            shuffled = records + records[:3]
            source.shuffle(shuffled)
            self.assertEqual(spread_sum(shuffled, -40, 60), spread_sum(records, -40, 60))
            self.assertEqual(count_settled(tuple(shuffled), -40, 60), count_settled(records, -40, 60))
            self.assertEqual(next_open(shuffled, -3), next_open(records, -3))
            self.assertEqual(next_settled(shuffled, -30), next_settled(records, -30))

    def test_a_rule_with_wide_records(self):
        # Spreads that are great: the sum of a linear function.
        records = fitting_records(random.Random(235), 200, (3, 7, 2), 10 ** 30, 10 ** 29)
        self.assertGreater(spread_sum(records, 0, 10 ** 30), 10 ** 57)
        self.assertEqual(count_settled(records, -FAR, FAR), 0)


if __name__ == "__main__":
    unittest.main()
