import random
import unittest

from leapfit.cycles import count_pairs, count_rules, index_of, least_cycle, least_rule, rule_at
from leapfit.errors import IndexOutOfRange, InvalidNumber, InvalidRecord, InvalidRule, NoRule, NotFitting, Unbounded
from leapfit.fitting import fits, rates
from tests.support import (CONFLICTING, FAR, NO_RULES, RECORDS, WRONG_INTEGERS, WRONG_RECORDS, WRONG_RULES, against,
                           bounded_lists, check_errors, common, fits_record, fitting_lists, fitting_records, interval,
                           looks_like_a_rule, pairs_of_cycle, phases_of_cycle, random_records, random_rule,
                           rules_of_cycle, split)

UNBOUNDED = [[], [("at least", 3, 1)], [("at most", 3, 1)], [("at least", 4, 1), ("at most", 4, 5)],
             [("at least", 9, 2), ("at most", -5, 2), ("at most", 9, 3)]]
FAR_CYCLES = [1, 2, 6, 9699690, 10 ** 8, 10 ** 8 - 1, 99999989, 73513440, 9699690 * 10, 2 ** 26, 3 ** 16, 9973 ** 2]


def least_by_trying(records):
    """The least rule by [60]: the cycles from 1 on, and for each one the least p that fits."""
    low, high = interval(records)
    cycle = 0
    while True:
        cycle += 1
        p = 0 if low is None else low.numerator * cycle // low.denominator + 1
        if high is None or p * high.denominator < high.numerator * cycle:
            lows, highs = split(records)
            if lows:
                return (p, cycle, max(n * cycle - p * t for t, n in lows))
            return (p, cycle, min(((m + 1) * cycle - p * u - 1 for u, m in highs), default=0))


def far_lists(seed, number, times=10 ** 40):
    """Lists of records with times and counts of forty digits, whose rates have an upper end."""
    source = random.Random(seed)
    found = []
    while len(found) < number:
        rule = random_rule(source, source.choice((5, 10 ** 9, 10 ** 20)))
        reach = source.choice((30, 10 ** 6, 10 ** 12, times))
        slack = source.choice((0, 1, 9, reach // 7))
        records = fitting_records(source, source.randint(3, 20), rule, reach, slack)
        ends = interval(records)
        if ends[1] is not None:
            found.append(records)
    return found


def divisors(number):
    return [d for d in range(1, number + 1) if number % d == 0]


def bent_records(scale):
    """200 records, each a corner of the bounds of c at some rate."""
    return [record for i in range(100) for record in (
        ("at least", i * scale, (200 - i) * i * scale), ("at most", (40 - i) * scale, (30000 - (200 - i) * i) * scale))]


class LeastTest(unittest.TestCase):
    def check_least(self, records, right):
        found = least_rule(records)
        self.assertTrue(looks_like_a_rule(found))
        self.assertEqual(found, right, records)
        self.assertEqual(least_cycle(records), right[1])

    def test_examples(self):
        self.assertEqual(least_cycle(RECORDS), 3)
        self.assertEqual(least_rule(RECORDS), (1, 3, 0))
        self.assertEqual(least_rule(records=tuple(RECORDS)), (1, 3, 0))
        self.assertEqual(least_cycle(records=tuple(RECORDS)), 3)

    def test_one_kind_or_none(self):
        for records, right in (([], (0, 1, 0)), ((), (0, 1, 0)), ([("at least", 5, -7)], (0, 1, -7)),
                               ([("at most", 5, -7)], (0, 1, -7)), ([("at most", -5, 7), ("at most", 9, 4)], (0, 1, 4)),
                               ([("at least", 5, 2), ("at least", 3, 8), ("at least", 0, 8)], (0, 1, 8)),
                               ([("at least", FAR, FAR)], (0, 1, FAR)), ([("at most", -FAR, FAR)], (0, 1, FAR))):
            self.check_least(records, right)

    def test_small_lists(self):
        source = random.Random(131)
        seen = 0
        while seen < 600:
            records = random_records(source, source.randint(0, 7), 12, 8)
            if interval(records) is not None:
                self.check_least(records, least_by_trying(records))
                seen += 1
        for records in bounded_lists(132, 200, 60, 25):
            self.check_least(records, least_by_trying(records))

    def test_no_smaller_cycle_has_a_rule(self):
        for records in bounded_lists(133, 60):
            cycle = least_cycle(records)
            for smaller in range(1, cycle):
                self.assertEqual(rules_of_cycle(records, smaller), [])
            self.assertEqual(rules_of_cycle(records, cycle)[0], least_rule(records))

    def test_far_lists(self):
        source = random.Random(134)
        for records in far_lists(135, 60) + fitting_lists(136, 12, 15):
            found = least_rule(records)
            self.assertTrue(looks_like_a_rule(found))
            self.assertTrue(all(fits_record(found, record) for record in records))
            self.assertEqual(least_cycle(records), found[1])
            kind = {word for word, _, _ in records}
            if kind == {"at least", "at most"}:
                further = fitting_records(source, 1, found, 10 ** 41, 10 ** 20)
                self.assertEqual(least_rule(records + further), found)
            shuffled = list(records)
            source.shuffle(shuffled)
            self.assertEqual(least_rule(shuffled), found)
            self.assertEqual(least_rule(tuple(records + records[:3])), found)

    def test_errors(self):
        for function in (least_rule, least_cycle):
            check_errors(self, function, {"records": RECORDS}, {"records": WRONG_RECORDS})
            for records in (CONFLICTING, tuple(CONFLICTING * 100)):
                with self.assertRaises(NoRule) as caught:
                    function(records)
                self.assertIs(type(caught.exception), NoRule)
            with self.assertRaises(InvalidRecord):
                function([*CONFLICTING, None])


class CountTest(unittest.TestCase):
    def test_examples(self):
        self.assertEqual(count_pairs(RECORDS, 6), 4)
        self.assertEqual(count_rules(RECORDS, 6), 0)
        self.assertEqual(count_pairs(cycle=6, records=tuple(RECORDS)), 4)
        self.assertEqual(count_rules(cycle=3, records=tuple(RECORDS)), 2)

    def test_small_cycles(self):
        for records in bounded_lists(137, 150):
            for cycle in (1, 2, 3, 4, 6, 7, 12):
                self.assertEqual(count_pairs(records, cycle), len(pairs_of_cycle(records, cycle)), (records, cycle))
                self.assertEqual(count_rules(records, cycle), len(rules_of_cycle(records, cycle)), (records, cycle))

    def test_narrow_rates(self):
        # Cycles without any pair, and others.
        seen = {}
        for records in bounded_lists(138, 150, 40, 15):
            for cycle in range(1, 12):
                found = count_pairs(records, cycle)
                self.assertEqual(found, len(pairs_of_cycle(records, cycle)), (records, cycle))
                seen[found] = seen.get(found, 0) + 1
        self.assertGreater(seen[0], 50)
        self.assertGreater(len(seen), 20)

    def test_many_corners(self):
        records = bent_records(1)
        for cycle in (1, 2, 5, 6):
            numbers = {p: max(0, greatest - least + 1) for p, least, greatest in phases_of_cycle(records, cycle)}
            self.assertEqual(count_pairs(records, cycle), sum(numbers.values()))
            self.assertEqual(count_rules(records, cycle), sum(numbers[p] for p in numbers if common(p, cycle) == 1))

    def test_sum_over_divisors(self):
        for records in bounded_lists(139, 8) + far_lists(140, 8):
            for cycle in (1, 12, 97, 360, 1001, 2310, 2520, 4096):
                total = sum(cycle // d * count_rules(records, d) for d in divisors(cycle))
                self.assertEqual(count_pairs(records, cycle), total)

    def test_a_further_record_and_its_opposite(self):
        source = random.Random(141)
        for records in bounded_lists(142, 60) + far_lists(143, 40):
            for cycle in (1, 7, 360, 10 ** 8, 10 ** 60, 10 ** 59 + 7):
                time, number = source.choice(records)[1:]
                more = ("at least", time + source.randint(-9, 9), number + source.randint(-3, 3))
                parts = [self.pairs_or_none(records + [record], cycle) for record in (more, against(more))]
                self.assertEqual(count_pairs(records, cycle), sum(parts))

    def pairs_or_none(self, records, cycle):
        try:
            return count_pairs(records, cycle)
        except NoRule:
            self.assertIsNone(rates(records))
            return 0

    def test_order_and_repeated_records(self):
        source = random.Random(144)
        for records in bounded_lists(145, 20) + far_lists(146, 20):
            shuffled = records + records[:4]
            source.shuffle(shuffled)
            for cycle in (1, 30, 9699690):
                self.assertEqual(count_rules(shuffled, cycle), count_rules(records, cycle))
                self.assertEqual(count_pairs(tuple(shuffled), cycle), count_pairs(records, cycle))

    def test_cycles_of_sixty_digits(self):
        # At each p below the cycle, c goes from 0 to cycle - 1 - p.
        records = [("at least", 0, 0), ("at most", 0, 0), ("at most", 1, 0)]
        for cycle in (10 ** 60, 10 ** 60 - 1, 3 * 10 ** 59):
            self.assertEqual(count_pairs(records, cycle), cycle * (cycle + 1) // 2)
            self.assertEqual(count_pairs([("at least", 0, 0), ("at most", 1, 0)], cycle), cycle * (cycle + 1) // 2)

    def test_200_records(self):
        for scale in (1, 10 ** 30, 10 ** 140):
            records = bent_records(scale)
            self.assertGreater(count_pairs(records, 10 ** 60), count_pairs(records, 10 ** 59))
            for cycle in FAR_CYCLES:
                number = count_rules(records, cycle)
                self.assertTrue(0 < number <= count_pairs(records, cycle))
                self.assertEqual(index_of(records, rule_at(records, cycle, number - 1)), number - 1)

    def test_prime_cycles(self):
        # Of a prime cycle, those pairs are no rules whose p is a multiple of it: the pairs of cycle 1, each q times.
        for records in far_lists(147, 20) + [bent_records(10 ** 30)]:
            for prime in (99999989, 9973, 2):
                self.assertEqual(count_rules(records, prime),
                                 count_pairs(records, prime) - prime * count_pairs(records, 1))

    def test_errors(self):
        for function, most in ((count_pairs, 10 ** 60), (count_rules, 10 ** 8)):
            wrong = WRONG_INTEGERS + [(InvalidNumber, value) for value in (0, -1, most + 1, FAR)]
            for records in (RECORDS, CONFLICTING, UNBOUNDED[0]):
                check_errors(self, function, {"records": records, "cycle": 6},
                             {"records": WRONG_RECORDS, "cycle": wrong})
            self.check_plain_errors(lambda records: function(records, most))

    def check_plain_errors(self, call):
        for records, error in [(CONFLICTING, NoRule), (tuple(CONFLICTING), NoRule)] + [
                (records, Unbounded) for records in UNBOUNDED]:
            with self.assertRaises(error) as caught:
                call(records)
            self.assertIs(type(caught.exception), error)

    def test_no_rule_before_unbounded(self):
        self.check_plain_errors(lambda records: rule_at(records, 3, 10 ** 9))
        self.check_plain_errors(lambda records: index_of(records, (1, 3, 5)))
        for records in ([("at least", 4, 3), ("at most", 4, 2)], [("at most", 4, 2), ("at least", 3, 3)]):
            with self.assertRaises(NoRule):
                count_pairs(records, 5)


class NumberTest(unittest.TestCase):
    def test_examples(self):
        self.assertEqual(rule_at(RECORDS, 3, 1), (1, 3, 1))
        self.assertEqual(index_of(RECORDS, (1, 3, 1)), 1)
        self.assertEqual(rule_at(index=1, cycle=3, records=tuple(RECORDS)), (1, 3, 1))
        self.assertEqual(index_of(rule=(1, 3, 1), records=tuple(RECORDS)), 1)

    def test_small_cycles(self):
        for records in bounded_lists(148, 60):
            for cycle in (1, 2, 3, 6, 8, 12):
                rules = rules_of_cycle(records, cycle)[:300]
                self.assertEqual([rule_at(records, cycle, index) for index in range(len(rules))], rules)
                self.assertEqual([index_of(records, rule) for rule in rules], list(range(len(rules))))

    def test_beyond_the_last_one(self):
        for records in bounded_lists(149, 30) + far_lists(150, 10):
            for cycle in (1, 6, 11, 10 ** 8):
                number = count_rules(records, cycle)
                for index in (number, number + 1, number + FAR):
                    with self.assertRaises(IndexOutOfRange) as caught:
                        rule_at(records, cycle, index)
                    self.assertIs(type(caught.exception), IndexOutOfRange)
                    self.assertEqual(caught.exception.value, index)
                if number > 0:
                    self.assertEqual(rule_at(records, cycle, number - 1)[1], cycle)

    def test_far_cycles(self):
        source = random.Random(151)
        for records in far_lists(152, 12) + [bent_records(10 ** 30), bounded_lists(153, 1)[0]]:
            for cycle in FAR_CYCLES:
                number = count_rules(records, cycle)
                if number > 0:
                    for index in (0, number - 1, number // 2, source.randrange(number)):
                        self.check_number(records, cycle, index, number)

    def check_number(self, records, cycle, index, number):
        found = rule_at(records, cycle, index)
        self.assertTrue(looks_like_a_rule(found))
        self.assertEqual(found[1], cycle)
        self.assertIs(fits(found, records), True)
        self.assertEqual(index_of(records, found), index)
        p, q, c = found
        if index + 1 < number:
            after = rule_at(records, cycle, index + 1)
            self.assertLess((p, c), (after[0], after[2]))
            if after[0] == p:
                self.assertEqual(after[2], c + 1)
            else:
                # No rule lies between the two.
                self.assertIs(fits((p, q, c + 1), records), False)
                self.assertIs(fits((after[0], q, after[2] - 1), records), False)
                for middle in range(p + 1, min(after[0], p + 50)):
                    self.assertGreater(common(middle, q), 1)

    def test_rate_of_0(self):
        records = [("at least", 0, 0), ("at most", 3, 1)]
        self.assertEqual(rule_at(records, 1, 0), (0, 1, 0))
        self.assertEqual(rule_at(records, 2, 0), (1, 2, 0))
        self.assertEqual(index_of(records, (0, 1, 1)), 1)

    def test_errors(self):
        cycles = WRONG_INTEGERS + [(InvalidNumber, value) for value in (0, -1, 10 ** 8 + 1, FAR)]
        indexes = WRONG_INTEGERS + [(InvalidNumber, value) for value in (-1, -FAR)]
        for records in (RECORDS, CONFLICTING, UNBOUNDED[0]):
            check_errors(self, rule_at, {"records": records, "cycle": 6, "index": 0},
                         {"records": WRONG_RECORDS, "cycle": cycles, "index": indexes})
            check_errors(self, index_of, {"records": records, "rule": (1, 3, 1)},
                         {"records": WRONG_RECORDS, "rule": WRONG_RULES})

    def test_cycle_of_a_rule(self):
        for records in (RECORDS, CONFLICTING, UNBOUNDED[0]):
            for cycle in (10 ** 8 + 1, 10 ** 60 + 7):
                with self.assertRaises(InvalidNumber) as caught:
                    index_of(records, (1, cycle, 0))
                self.assertIs(type(caught.exception), InvalidNumber)
                self.assertEqual(caught.exception.value, cycle)
        for value in NO_RULES:
            with self.assertRaises(InvalidRule):
                index_of(RECORDS, value)
        with self.assertRaises(InvalidRule):
            index_of(RECORDS, (2, 10 ** 9, 0))

    def test_rules_that_do_not_fit(self):
        for rule in ((1, 3, 3), (0, 1, 0), (1, 3, -1), (1, 10 ** 8, 0), (10 ** 300, 1, 0)):
            with self.assertRaises(NotFitting) as caught:
                index_of(RECORDS, rule)
            self.assertIs(type(caught.exception), NotFitting)
            self.assertIs(caught.exception.value, rule)
        for records in bounded_lists(154, 40):
            p, q, c = rule_at(records, least_cycle(records), 0)
            with self.assertRaises(NotFitting):
                index_of(records, (p, q, c - 1))


if __name__ == "__main__":
    unittest.main()
