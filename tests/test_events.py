import random
import unittest

from leapfit.errors import InvalidNumber, InvalidRule, NoEvents
from leapfit.events import (busy_times, event_rule, event_time, event_time_sum, events_in, gap_range, next_event,
                            next_residue, previous_event, residue_times)
from tests.support import (FAR, FAR_RULES, NO_INTEGERS, NO_RULES, check_errors, formula, looks_like_a_rule,
                           small_rules)

RULE = (2, 5, 1)
STILL = [(0, 1, 0), (0, 1, 7), (0, 1, -(10 ** 80))]
MOVING = [rule for rule in small_rules(31, 25) if rule[0] > 0]
FAR_MOVING = [rule for rule in FAR_RULES if rule[0] > 0]
STARTS = (-40, -3, 0, 5, FAR, -FAR)
LENGTHS = (-FAR, -3, 0, 1, 2, 7, 26)
WRONG_INTEGERS = [(InvalidNumber, value) for value in NO_INTEGERS]
WRONG_RULES = [(InvalidRule, value) for value in NO_RULES]


def happens_at(rule, event, time):
    return formula(rule, time) >= event > formula(rule, time - 1)


def searched_time(rule, event, time):
    """The time of an event, searched step by step from some time on."""
    while formula(rule, time) >= event:
        time -= 1
    while formula(rule, time) < event:
        time += 1
    return time


def found_residue(rule, k, r, time):
    """The answer of next_residue by search; the remainders repeat after k * q times."""
    for later in range(time, time + k * rule[1]):
        if formula(rule, later) % k == r:
            return later
    return None


class EventsTest(unittest.TestCase):
    def test_examples(self):
        self.assertEqual(event_time(RULE, 2), 5)
        self.assertEqual(event_rule(RULE), (5, 2, 0))
        self.assertEqual(events_in((5, 2, 0), 0, 3), 8)
        self.assertEqual(next_event(RULE, 3), (2, 5))
        self.assertEqual(previous_event(RULE, 5), (1, 2))
        self.assertEqual(event_time_sum(RULE, 0, 3), 7)
        self.assertEqual(busy_times(RULE, 0, 10), 4)
        self.assertEqual(gap_range(RULE, 1), (2, 3))
        self.assertEqual(residue_times(RULE, 2, 1, 0, 6), 3)
        self.assertEqual(next_residue(RULE, 3, 2, 0), 5)

    def test_keywords(self):
        self.assertEqual(event_time(event=2, rule=RULE), 5)
        self.assertEqual(event_rule(rule=RULE), (5, 2, 0))
        self.assertEqual(events_in(stop=3, start=0, rule=(5, 2, 0)), 8)
        self.assertEqual(next_event(time=3, rule=RULE), (2, 5))
        self.assertEqual(previous_event(time=5, rule=RULE), (1, 2))
        self.assertEqual(event_time_sum(last=3, first=0, rule=RULE), 7)
        self.assertEqual(busy_times(stop=10, start=0, rule=RULE), 4)
        self.assertEqual(gap_range(events=1, rule=RULE), (2, 3))
        self.assertEqual(residue_times(stop=6, start=0, r=1, k=2, rule=RULE), 3)
        self.assertEqual(next_residue(time=0, r=2, k=3, rule=RULE), 5)

    def test_event_time(self):
        for rule in MOVING:
            for event in range(-15, 16):
                self.assertEqual(event_time(rule, event), searched_time(rule, event, 0), (rule, event))
        for rule in MOVING + FAR_MOVING:
            for event in (FAR, -FAR, 10 ** 60, -(10 ** 100) + 1):
                self.assertTrue(happens_at(rule, event, event_time(rule, event)), (rule, event))

    def test_event_rule(self):
        for rule in MOVING + FAR_MOVING:
            times = event_rule(rule)
            self.assertTrue(looks_like_a_rule(times))
            for event in list(range(-12, 13)) + [FAR, -FAR]:
                self.assertTrue(happens_at(rule, event, formula(times, event)), (rule, event))

    def test_next_and_previous_event(self):
        for rule in MOVING + FAR_MOVING:
            for time in list(range(-12, 13)) + [FAR, FAR + 1, -FAR, 10 ** 70]:
                event, at = next_event(rule, time)
                self.assertTrue(happens_at(rule, event, at))
                self.assertTrue(at >= time)
                self.assertFalse(formula(rule, time - 1) >= event)
                self.assertTrue(formula(rule, time - 1) >= event - 1)
                event, at = previous_event(rule, time)
                self.assertTrue(happens_at(rule, event, at))
                self.assertTrue(at < time)
                self.assertTrue(formula(rule, time - 1) < event + 1)
                self.assertIs(type(next_event(rule, time)), tuple)
                self.assertIs(type(previous_event(rule, time)), tuple)

    def test_next_and_previous_event_by_search(self):
        for rule in MOVING:
            for time in range(-6, 7):
                later = time
                while formula(rule, later) == formula(rule, later - 1):
                    later += 1
                self.assertEqual(next_event(rule, time), (formula(rule, later - 1) + 1, later))
                before = time - 1
                while formula(rule, before) == formula(rule, before - 1):
                    before -= 1
                self.assertEqual(previous_event(rule, time), (formula(rule, before), before))

    def test_events_in_and_busy_times(self):
        for rule in MOVING + STILL:
            for start in STARTS:
                for length in LENGTHS:
                    events = [formula(rule, start + i) - formula(rule, start + i - 1) for i in range(max(0, length))]
                    self.assertEqual(events_in(rule, start, start + length), sum(events))
                    busy = len([number for number in events if number])
                    self.assertEqual(busy_times(rule, start, start + length), busy)

    def test_far_ranges(self):
        for rule in MOVING + FAR_RULES:
            for function in (events_in, busy_times):
                parts = function(rule, -FAR, 77) + function(rule, 77, FAR)
                self.assertEqual(function(rule, -FAR, FAR), parts)
                self.assertEqual(function(rule, FAR, -FAR), 0)
        self.assertEqual(busy_times((2, 5, 1), 0, 5 * FAR), 2 * FAR)
        self.assertEqual(busy_times((5, 2, 1), -FAR, FAR), 2 * FAR)
        self.assertEqual(busy_times((1, 1, 1), -FAR, FAR), 2 * FAR)
        self.assertEqual(events_in((5, 2, 1), 0, 2 * FAR), 5 * FAR)

    def test_event_time_sum(self):
        for rule in MOVING:
            for first in (-14, 0, 3):
                for length in (-FAR, -2, 0, 1, 2, 9):
                    expected = sum(searched_time(rule, first + i, 0) for i in range(max(0, length)))
                    self.assertEqual(event_time_sum(rule, first, first + length), expected)
        for rule in MOVING + FAR_MOVING:
            parts = event_time_sum(rule, -FAR, 10 ** 60) + event_time_sum(rule, 10 ** 60, FAR)
            self.assertEqual(event_time_sum(rule, -FAR, FAR), parts)
            self.assertEqual(event_time_sum(rule, FAR, FAR + 1), event_time(rule, FAR))

    def test_gap_range(self):
        for rule in MOVING:
            times = [searched_time(rule, event, 0) for event in range(rule[0] + 20)]
            for events in range(20):
                gaps = [times[m + events] - times[m] for m in range(rule[0])]
                self.assertEqual(gap_range(rule, events), (min(gaps), max(gaps)))
        self.assertEqual(gap_range((2, 5, 1), FAR * 2), (FAR * 5, FAR * 5))
        self.assertEqual(gap_range((2, 5, 1), FAR * 2 + 1), (FAR * 5 + 2, FAR * 5 + 3))

    def test_no_events(self):
        for rule in STILL:
            for call in ((event_time, 3), (event_rule,), (next_event, 0), (previous_event, FAR), (event_time_sum, 0, 5),
                         (event_time_sum, 5, 0), (event_time_sum, 0, 0), (gap_range, 0), (gap_range, 1)):
                with self.assertRaises(NoEvents):
                    call[0](rule, *call[1:])
            for start, stop in ((0, 0), (-5, 7), (7, -5), (-FAR, FAR)):
                self.assertEqual(events_in(rule, start, stop), 0)
                self.assertEqual(busy_times(rule, start, stop), 0)

    def test_residues_by_search(self):
        for rule in small_rules(32, 12, most=9):
            for k in range(1, 7):
                for r in range(k):
                    for time in (-20, 0, 3, FAR):
                        expected = found_residue(rule, k, r, time)
                        self.assertEqual(next_residue(rule, k, r, time), expected, (rule, k, r, time))
                    for start, stop in ((-15, 20), (0, 1), (4, 4), (4, -9), (FAR, FAR + 23)):
                        expected = len([t for t in range(start, stop) if formula(rule, t) % k == r])
                        self.assertEqual(residue_times(rule, k, r, start, stop), expected)

    def test_no_time_has_the_remainder(self):
        self.assertIsNone(next_residue((0, 1, 5), 3, 1, -FAR))
        self.assertEqual(next_residue((0, 1, 5), 3, 2, -FAR), -FAR)
        self.assertIsNone(next_residue((4, 1, 0), 6, 3, 7))
        self.assertIsNone(next_residue((6 * 10 ** 80, 1, 1), 10 ** 90, 2, FAR))

    def test_residues_of_large_rules(self):
        source = random.Random(33)
        for rule in FAR_RULES + [(10 ** 30 + 57, 10 ** 31, 5), (3 ** 63, 2 ** 100, -(10 ** 40))]:
            for _ in range(6):
                k = source.randint(1, 10 ** source.randint(1, 60))
                r = source.randint(0, k - 1)
                start, middle, stop = sorted(source.randint(-10 ** 30, 10 ** 30) for _ in range(3))
                parts = residue_times(rule, k, r, start, middle) + residue_times(rule, k, r, middle, stop)
                self.assertEqual(residue_times(rule, k, r, start, stop), parts)
                self.check_next_residue(rule, k, r, start)

    def check_next_residue(self, rule, k, r, start):
        found = next_residue(rule, k, r, start)
        if found is None:
            self.assertEqual(residue_times(rule, k, r, start, start + k * rule[1]), 0)
        else:
            self.assertEqual(formula(rule, found) % k, r)
            self.assertTrue(found >= start)
            self.assertEqual(residue_times(rule, k, r, start, found), 0)
            self.assertEqual(residue_times(rule, k, r, start, found + 1), 1)

    def test_all_remainders_together(self):
        for rule in FAR_RULES:
            total = sum(residue_times(rule, 7, r, -FAR, FAR) for r in range(7))
            self.assertEqual(total, 2 * FAR)

    def test_wrong_arguments(self):
        integers = WRONG_INTEGERS
        for rule in (RULE, (0, 1, 3)):
            for function in (event_time, next_event, previous_event):
                name = "event" if function is event_time else "time"
                check_errors(self, function, {"rule": rule, name: 3}, {"rule": WRONG_RULES, name: integers})
            check_errors(self, event_time_sum, {"rule": rule, "first": 0, "last": 5},
                         {"rule": WRONG_RULES, "first": integers, "last": integers})
            check_errors(self, gap_range, {"rule": rule, "events": 2},
                         {"rule": WRONG_RULES, "events": integers + [(InvalidNumber, -1), (InvalidNumber, -FAR)]})
            for function in (events_in, busy_times):
                for start, stop in ((0, 5), (5, 0)):
                    check_errors(self, function, {"rule": rule, "start": start, "stop": stop},
                                 {"rule": WRONG_RULES, "start": integers, "stop": integers})
        check_errors(self, event_rule, {"rule": RULE}, {"rule": WRONG_RULES})

    def test_wrong_arguments_of_residues(self):
        factors = WRONG_INTEGERS + [(InvalidNumber, 0), (InvalidNumber, -4)]
        remainders = WRONG_INTEGERS + [(InvalidNumber, -1), (InvalidNumber, 4), (InvalidNumber, FAR)]
        wrong = {"rule": WRONG_RULES, "k": factors, "r": remainders, "start": WRONG_INTEGERS, "stop": WRONG_INTEGERS}
        check_errors(self, residue_times, {"rule": RULE, "k": 4, "r": 3, "start": 0, "stop": 9}, wrong)
        check_errors(self, residue_times, {"rule": RULE, "k": 4, "r": 0, "start": 9, "stop": 0}, wrong)
        check_errors(self, next_residue, {"rule": RULE, "k": 4, "r": 3, "time": 0},
                     {"rule": WRONG_RULES, "k": factors, "r": remainders, "time": WRONG_INTEGERS})


if __name__ == "__main__":
    unittest.main()
