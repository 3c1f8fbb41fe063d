import copy
import random
import unittest

from leapfit.errors import InvalidNumber
from leapfit.pins import are_pins, pins
from tests.support import (FAR, NO_INTEGERS, NO_RECORDS, WRONG_INTEGERS, WRONG_RULES, check_errors, common, fits_record,
                           fitting_records, formula, interval, rules_of_cycle, same, small_rules, split)

PINS = [("at most", -7, -3), ("at least", 0, 0), ("at most", 5, 1)]
MOST = 10 ** 60


def right_pins(rule, most, value):
    """Whether a list of records is a list of pins by [59], by going through all rules of the cycles."""
    if len(value) > 3 or not all(fits_record(rule, record) for record in value):
        return False
    if not all(split(value)) or interval(value)[1] is None:
        # Without an upper end of the rates, or without one kind of records, infinitely many rules of a cycle fit.
        return False
    return [found for cycle in range(1, most + 1) for found in rules_of_cycle(value, cycle)] == [rule]


def far_rules(seed):
    """Rules with cycles of up to sixty digits: p = 0, whole rates, flat and steep ones."""
    source = random.Random(seed)
    rules = [(0, 1, 0), (0, 1, -FAR), (1, 1, 0), (10 ** 80, 1, -7), (1, MOST, 5), (MOST - 1, MOST, MOST - 1),
             (FAR, 1, FAR), (1, 10 ** 59 + 7, -FAR), (FAR * 10 ** 60 + 1, MOST, 3)]
    while len(rules) < 40:
        size = 10 ** source.choice((1, 5, 20, 40, 60))
        p, q, c = source.randint(0, size * source.choice((1, 9))), source.randint(1, size), source.randint(-FAR, FAR)
        if common(p, q) == 1:
            rules.append((p, q, c))
    return rules


class PinsTest(unittest.TestCase):
    def check_form(self, rule, found):
        self.assertIs(type(found), list)
        self.assertLessEqual(len(found), 3)
        for record in found:
            self.assertIs(type(record), tuple)
            self.assertIn(record[0], ("at least", "at most"))
            self.assertEqual([type(item) for item in record[1:]], [int, int])
            self.assertTrue(fits_record(rule, record))

    def test_examples(self):
        self.assertIs(are_pins((1, 3, 0), 5, pins((1, 3, 0), 5)), True)
        self.assertIs(are_pins((1, 3, 0), 5, PINS), True)
        self.assertEqual(pins(most=5, rule=(1, 3, 0)), pins((1, 3, 0), 5))

    def test_small_rules(self):
        for rule in small_rules(121, 30, 9):
            if rule[1] > 9:
                continue
            for most in sorted({rule[1], rule[1] + 1, 9}):
                found = pins(rule, most)
                self.check_form(rule, found)
                self.assertTrue(right_pins(rule, most, found), (rule, most, found))
                self.assertIs(are_pins(rule, most, found), True)

    def test_all_rules_of_small_cycles(self):
        for q in range(1, 7):
            for p in range(2 * q + 1):
                for c in range(-q, q + 1) if common(p, q) == 1 else ():
                    self.assertTrue(right_pins((p, q, c), 6, pins((p, q, c), 6)), (p, q, c))

    def test_far_rules(self):
        for rule in far_rules(122):
            for most in sorted({rule[1], min(MOST, rule[1] + 1), MOST}):
                found = pins(rule, most)
                self.check_form(rule, found)
                self.assertIs(are_pins(rule, most, found), True)
                self.assertIs(are_pins(rule, most, tuple(found)), True)
                # They pin no other rule of the same rate, and not the same one with a record less.
                p, q, c = rule
                self.assertIs(are_pins((p, q, c + 1), most, found), False)
                self.assertIs(are_pins((p, q, c - 1), most, found), False)
                self.assertIs(are_pins(rule, most, []), False)

    def test_arguments_and_results_stay_apart(self):
        rule = (2, 5, 1)
        before = pins(rule, 7)
        pins(rule, 7).clear()
        self.assertEqual(pins(rule, 7), before)

    def test_errors(self):
        for rule in ((1, 3, 0), (0, 1, 7), (7, 5, -4)):
            wrong = WRONG_INTEGERS + [(InvalidNumber, value) for value in (rule[1] - 1, 0, -5, MOST + 1, FAR)]
            check_errors(self, pins, {"rule": rule, "most": 5}, {"rule": WRONG_RULES, "most": wrong})
            check_errors(self, are_pins, {"rule": rule, "most": 5, "value": PINS},
                         {"rule": WRONG_RULES, "most": wrong, "value": []})

    def test_cycles_beyond_the_limit(self):
        rule = (1, MOST + 1, 0)
        for most in (MOST, MOST + 1, MOST + 2):
            for call in (lambda: pins(rule, most), lambda: are_pins(rule, most, PINS)):
                with self.assertRaises(InvalidNumber) as caught:
                    call()
                self.assertEqual(caught.exception.value, most)
        self.assertIs(are_pins((1, MOST, 0), MOST, pins((1, MOST, 0), MOST)), True)


class ArePinsTest(unittest.TestCase):
    def test_two_records(self):
        # Rates are not negative, so two records can be enough for a rate of 0, or for one below the next simple one.
        self.assertIs(are_pins((0, 1, 0), 10, [("at least", 0, 0), ("at most", 10, 0)]), True)
        self.assertIs(are_pins((0, 1, 0), 11, [("at least", 0, 0), ("at most", 10, 0)]), False)
        self.assertIs(are_pins((0, 1, 0), 10, [("at most", 0, 0), ("at least", 10, 0)]), False)
        self.assertIs(are_pins((1, 3, 0), 3, PINS[1:]), False)

    def test_other_lists(self):
        for value in ([], [PINS[1]], [PINS[0], PINS[2]], PINS[:2], [*PINS, PINS[0]], PINS * 100, [*PINS, None],
                      [PINS], [list(record) for record in PINS], [PINS[0], PINS[1], ("at most", 5, 0)],
                      [PINS[0], PINS[1], ("at least", 5, 1)], [PINS[0], ("at least", 0, -1), PINS[2]],
                      [PINS[0], ("at least", 0, 1), PINS[2]], [("at most", -7, -2), *PINS[1:]],
                      [("at most", -1, -1), *PINS[1:]], [PINS[0], PINS[1], ("at most", 2, 0)],
                      [("at least", 0, 3), ("at most", 4, 1)], [PINS[1], PINS[1], PINS[2]]):
            self.assertIs(are_pins((1, 3, 0), 5, value), False, value)
            self.assertIs(are_pins((1, 3, 0), 5, tuple(value)), False, value)

    def test_order_and_repeated_records(self):
        for value in (PINS[::-1], [PINS[1], PINS[0], PINS[2]], tuple(PINS), tuple(PINS[::-1])):
            self.assertIs(are_pins(value=value, rule=(1, 3, 0), most=5), True)
        two = [("at least", 0, 0), ("at most", 10, 0)]
        self.assertIs(are_pins((0, 1, 0), 10, [two[0], two[1], two[0]]), True)
        self.assertIs(are_pins((0, 1, 0), 10, two + two), False)

    def test_other_objects(self):
        for value in [*NO_INTEGERS, *NO_RECORDS, 5, PINS[0], "at least", {0: PINS[0]}, [[PINS]], [None] * 3, [None] * 300]:
            before = copy.deepcopy(value)
            for rule in ((1, 3, 0), (0, 1, 0)):
                self.assertIs(are_pins(rule, 5, value), False, value)
            self.assertTrue(same(value, before))
        for item in NO_RECORDS:
            self.assertIs(are_pins((1, 3, 0), 5, [PINS[0], item, PINS[2]]), False)

    def test_against_all_rules(self):
        source = random.Random(123)
        seen = {True: 0, False: 0}
        for rule in small_rules(124, 25, 6):
            if rule[1] > 6:
                continue
            most = source.randint(rule[1], 7)
            found = pins(rule, most)
            values = [self.changed(source, rule, found) for _ in range(12)]
            values += [fitting_records(source, source.randint(1, 4), rule, 25, 0) for _ in range(12)]
            for value in values:
                right = right_pins(rule, most, value)
                self.assertIs(are_pins(rule, most, value), right, (rule, most, value))
                seen[right] += 1
        self.assertGreater(min(seen.values()), 30)

    def changed(self, source, rule, records):
        """One record at another time, with the rule's count there, or with another count."""
        at = source.randrange(len(records))
        word, time, number = records[at]
        time += source.choice((0, -rule[1], rule[1], 1, -1, 2, -3))
        number = formula(rule, time) + source.choice((0, 0, 0, 1, -1))
        return records[:at] + [(word, time, number)] + records[at + 1:]

    def test_far_away(self):
        # With a record nearer than the bound, another rule of a cycle up to the bound fits.
        for rule in far_rules(125):
            p, q, c = rule
            if q > MOST // 4:
                continue
            found = pins(rule, MOST)
            for most in (q, 2 * q, MOST // 2):
                nearer = pins(rule, most)
                self.assertIs(are_pins(rule, most, nearer), True)
                self.assertIs(are_pins(rule, MOST, nearer), False)
                self.assertIs(are_pins(rule, most, found), True)


if __name__ == "__main__":
    unittest.main()
